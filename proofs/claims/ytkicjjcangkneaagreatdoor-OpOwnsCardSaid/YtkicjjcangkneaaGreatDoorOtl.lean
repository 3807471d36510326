/-
  Names, boxes, numbers, nodes and sealed keys compared, and lists of them. No condition but what fits memory.
-/
import Derived.Test.YtkicjjcangkneaaGreatDoorOtk
import Derived.Laws.StructEq
import Derived.BigQuiet
namespace Go.Proofs.YtkicjjcangkneaaGreatDoor
open Go.RowKit
attribute [local go_sem ↓] Go.wp_at_zero Go.wp_at_succ
set_option maxRecDepth 100000
namespace Ot
theorem int_beq (x y : Int) : (x == y) = decide (x = y) := by
  by_cases h : x = y
  · rw [decide_eq_true h, beq_iff_eq]; exact h
  · rw [decide_eq_false h, beq_eq_false_iff_ne]; exact h
theorem nat_beq (x y : Nat) : ((x : Int) == (y : Int)) = decide (x = y) := by
  rw [int_beq]
  by_cases h : x = y
  · rw [decide_eq_true h, decide_eq_true (by omega)]
  · rw [decide_eq_false h, decide_eq_false (by omega)]
def nmv (x : Pk.Nm) : Array Value := #[.int .i64 x.a, .int .i64 x.b, .int .u64 (x.c : Int)]
def bxv (x : Bx) : Array Value := #[.int .u64 (x.dst : Int), .int .u64 (x.eph : Int), .int .u64 (x.body : Int), .int .u64 (x.tag : Int)]
def nmAlike (x y : Pk.Nm) : Bool := decide (x.a = y.a ∧ x.b = y.b ∧ x.c = y.c)
def bxAlike (x y : Bx) : Bool := decide (x.dst = y.dst ∧ x.eph = y.eph ∧ x.body = y.body ∧ x.tag = y.tag)
theorem nmAlike_iff (x y : Pk.Nm) : nmAlike x y = true ↔ x = y := by
  obtain ⟨a, b, c⟩ := x
  obtain ⟨a', b', c'⟩ := y
  simp [nmAlike]
theorem bxAlike_iff (x y : Bx) : bxAlike x y = true ↔ x = y := by
  obtain ⟨a, b, c, d⟩ := x
  obtain ⟨a', b', c', d'⟩ := y
  simp [bxAlike]
theorem idn_held : Tryz.prog.stoodInHeld 27 = false := by kernel_rfl
theorem idn_guard : Tryz.prog.eqGuardType Tryz.prog.depth 27 = false := by kernel_rfl
theorem idn_under : Tryz.prog.underlying 27 = some (.struct (Tryz.prog.fieldsOf 27)) := by kernel_rfl
theorem bx_held : Tryz.prog.stoodInHeld 68 = false := by kernel_rfl
theorem bx_guard : Tryz.prog.eqGuardType Tryz.prog.depth 68 = false := by kernel_rfl
theorem idn_same (x y : Pk.Nm) (w : World) (n : Nat) : (Op.equalIn (n + 2) 27 (.agg (nmv x)) (.agg (nmv y))).run Tryz.prog w = .ok (nmAlike x y) w := by
  rw [run_equalIn_struct w (n + 1) 27 _ _ idn_under idn_held]
  have hf : (Tryz.prog.fieldsOf 27).toList = [{ name := "By", type := 3, offset := 0, embedded := false, tag := "", pkgPath := "", byteOffset := 0 },
          { name := "Seq", type := 3, offset := 1, embedded := false, tag := "", pkgPath := "", byteOffset := 8 },
          { name := "Sum", type := 25, offset := 2, embedded := false, tag := "", pkgPath := "", byteOffset := 16 }] := by
    simp [Program.fieldsOf, Tryz.underlying27]
  rw [hf]
  obtain ⟨a, b, c⟩ := x
  obtain ⟨a', b', c'⟩ := y
  have hi := fun (w : World) (x y : Int) => (run_equalIn_int (P := Tryz.prog) w n 3 .i64 .i64 x y Tryz.underlying3).trans (by rw [int_beq])
  have hu := fun (w : World) (x y : Nat) => (run_equalIn_int (P := Tryz.prog) w n 25 .u64 .u64 (x : Int) (y : Int) Tryz.underlying25).trans (by rw [nat_beq])
  have hpi := fun (w : World) (xs : Array Value) (i : Nat) (v : Value) (h : xs[i]? = some v) => (show (part 3 xs i).run Tryz.prog w = .ok v w by simp [part, isAgg, go_sem, run_underlying Tryz.underlying3, h])
  have hpu := fun (w : World) (xs : Array Value) (i : Nat) (v : Value) (h : xs[i]? = some v) => (show (part 25 xs i).run Tryz.prog w = .ok v w by simp [part, isAgg, go_sem, run_underlying Tryz.underlying25, h])
  have h0 := fun (w : World) (x0 x1 : Int) (x2 : Nat) => hpi w #[.int .i64 x0, .int .i64 x1, .int .u64 (x2 : Int)] 0 _ rfl
  have h1 := fun (w : World) (x0 x1 : Int) (x2 : Nat) => hpi w #[.int .i64 x0, .int .i64 x1, .int .u64 (x2 : Int)] 1 _ rfl
  have h2 := fun (w : World) (x0 x1 : Int) (x2 : Nat) => hpu w #[.int .i64 x0, .int .i64 x1, .int .u64 (x2 : Int)] 2 _ rfl
  unfold nmAlike nmv
  by_cases q1 : a = a' <;> by_cases q2 : b = b' <;> by_cases q3 : c = c' <;>
    simp [Op.eqFields, Sem.run_bind, hi, hu, h0, h1, h2, q1, q2, q3, Result.andThen_ok, Sem.run_ite, Sem.run_pure]
theorem idn_eql (x y : Pk.Nm) (w : World) : (binOp .eql 27 (.agg (nmv x)) (.agg (nmv y))).run Tryz.prog w = .ok (.bool (nmAlike x y)) w := by
  rw [run_eql_struct, idn_same]
  rfl
theorem idn_neq (x y : Pk.Nm) (w : World) : (binOp .neq 27 (.agg (nmv x)) (.agg (nmv y))).run Tryz.prog w = .ok (.bool (!nmAlike x y)) w := by
  rw [run_neq_struct, idn_same]
  rfl
theorem idn_free (op : BinOp) (x y : Operand) (xs ys : Array Value) (w : World) : (eqGuard op 27 x y (.agg xs) (.agg ys)).run Tryz.prog w = .ok () w :=
  run_eqGuard_agg w op 27 x y xs ys idn_guard
theorem bx_same (x y : Bx) (w : World) (n : Nat) : (Op.equalIn (n + 2) 68 (.agg (bxv x)) (.agg (bxv y))).run Tryz.prog w = .ok (bxAlike x y) w := by
  rw [run_equalIn_struct w (n + 1) 68 _ _ bx_under bx_held]
  have hf : (Tryz.prog.fieldsOf 68).toList = [{ name := "To", type := 25, offset := 0, embedded := false, tag := "", pkgPath := "", byteOffset := 0 },
          { name := "Eph", type := 25, offset := 1, embedded := false, tag := "", pkgPath := "", byteOffset := 8 },
          { name := "Body", type := 25, offset := 2, embedded := false, tag := "", pkgPath := "", byteOffset := 16 },
          { name := "Tag", type := 25, offset := 3, embedded := false, tag := "", pkgPath := "", byteOffset := 24 }] := by
    simp [Program.fieldsOf, Tryz.underlying68]
  rw [hf]
  obtain ⟨a, b, c, d⟩ := x
  obtain ⟨a', b', c', d'⟩ := y
  have hu := fun (w : World) (x y : Nat) => (run_equalIn_int (P := Tryz.prog) w n 25 .u64 .u64 (x : Int) (y : Int) Tryz.underlying25).trans (by rw [nat_beq])
  have hpu := fun (w : World) (xs : Array Value) (i : Nat) (v : Value) (h : xs[i]? = some v) => (show (part 25 xs i).run Tryz.prog w = .ok v w by simp [part, isAgg, go_sem, run_underlying Tryz.underlying25, h])
  have h0 := fun (w : World) (x0 x1 x2 x3 : Nat) => hpu w #[.int .u64 (x0 : Int), .int .u64 (x1 : Int), .int .u64 (x2 : Int), .int .u64 (x3 : Int)] 0 _ rfl
  have h1 := fun (w : World) (x0 x1 x2 x3 : Nat) => hpu w #[.int .u64 (x0 : Int), .int .u64 (x1 : Int), .int .u64 (x2 : Int), .int .u64 (x3 : Int)] 1 _ rfl
  have h2 := fun (w : World) (x0 x1 x2 x3 : Nat) => hpu w #[.int .u64 (x0 : Int), .int .u64 (x1 : Int), .int .u64 (x2 : Int), .int .u64 (x3 : Int)] 2 _ rfl
  have h3 := fun (w : World) (x0 x1 x2 x3 : Nat) => hpu w #[.int .u64 (x0 : Int), .int .u64 (x1 : Int), .int .u64 (x2 : Int), .int .u64 (x3 : Int)] 3 _ rfl
  unfold bxAlike bxv
  by_cases q1 : a = a' <;> by_cases q2 : b = b' <;> by_cases q3 : c = c' <;> by_cases q4 : d = d' <;>
    simp [Op.eqFields, Sem.run_bind, hu, h0, h1, h2, h3, q1, q2, q3, q4, Result.andThen_ok, Sem.run_ite, Sem.run_pure]
theorem bx_neq (x y : Bx) (w : World) : (binOp .neq 68 (.agg (bxv x)) (.agg (bxv y))).run Tryz.prog w = .ok (.bool (!bxAlike x y)) w := by
  rw [run_neq_struct, bx_same]
  rfl
theorem bx_free (op : BinOp) (x y : Operand) (xs ys : Array Value) (w : World) : (eqGuard op 68 x y (.agg xs) (.agg ys)).run Tryz.prog w = .ok () w :=
  run_eqGuard_agg w op 68 x y xs ys bx_guard
/-- A comparison told. -/
def Eqd {α : Type} (w : World) (a b : α) (e : Ending) (w' : World) : Prop := ∃ r : Bool, e = .returned (.bool r) ∧ (r = true ↔ a = b) ∧ Below w.heap.size w w'
theorem take_eq {α : Type} {xs ys : List α} {k : Nat} {x y : α} (h : xs.take k = ys.take k) (hx : xs[k]? = some x) (hy : ys[k]? = some y) (e : x = y) : xs.take (k + 1) = ys.take (k + 1) := by
  obtain ⟨h1, e1⟩ := List.getElem?_eq_some_iff.1 hx
  obtain ⟨h2, e2⟩ := List.getElem?_eq_some_iff.1 hy
  rw [List.take_succ_eq_append_getElem h1, List.take_succ_eq_append_getElem h2, h, e1, e2, e]
theorem below_drewN (w : World) (j n : Nat) : Below n w (w.drewN j) := ⟨rfl, rfl, rfl, Nat.le_refl _, fun _ _ => rfl⟩

set_option maxHeartbeats 2000000 in
theorem eq_nm {w : World} (x y : Ls Pk.Nm) (hx : Lz kNm No w x) (hy : Lz kNm No w y) (hb : x.l.length ≤ 1000000) (hb' : y.l.length ≤ 1000000) :
    Calls Tryz.prog 80 #[x.v, y.v] w (Eqd w x.l y.l) := by
  obtain ⟨xs, A, c⟩ := x
  obtain ⟨ys, A', c'⟩ := y
  obtain ⟨n, hn⟩ : ∃ n, n = xs.length := ⟨_, rfl⟩
  obtain ⟨n', hn'⟩ : ∃ n', n' = ys.length := ⟨_, rfl⟩
  have hb : n ≤ 1000000 := by rw [hn]; exact hb
  have hb' : n' ≤ 1000000 := by rw [hn']; exact hb'
  show Calls _ _ #[.slice A xs.length c, .slice A' ys.length c'] w (Eqd w xs ys)
  rw [← hn, ← hn']
  have HN := Lib.hid hn
  have HN' := Lib.hid hn'
  have HA := Lib.hid hx
  have HA' := Lib.hid hy
  clear hn hn' hx hy
  by_cases hne : n = n'
  · subst hne
    go_enter Tryz.func80, Tryz.ntmps80
    go_wp2
    go_loopw [5, 13] (fun _ i wr => ∃ k j : Nat, k ≤ n ∧ i = .int .i64 k ∧ xs.take k = ys.take k ∧ wr = w.drewN j) (fun _ i _ => n - (intOf i).toNat)
    case atStart => exact ⟨0, 0, Nat.zero_le _, rfl, rfl, rfl⟩
    case round =>
      obtain ⟨k, j, hk, rfl, htk, rfl⟩ := hrel
      have HT := Lib.hid htk
      clear htk
      by_cases hlt : k < n
      · obtain ⟨y1, hy1⟩ : ∃ y, xs[k]? = some y := ⟨_, List.getElem?_eq_getElem (by have := HN.out; omega)⟩
        obtain ⟨y2, hy2⟩ : ∃ y, ys[k]? = some y := ⟨_, List.getElem?_eq_getElem (by have := HN'.out; omega)⟩
        obtain ⟨b, off, rfl, hbb, _, p0, p1, p2⟩ := HA.out.nm hy1
        obtain ⟨b2, off2, rfl, hbb2, _, q0, q1, q2⟩ := HA'.out.nm hy2
        have q0_ : (0 : Int) ≤ (k : Int) := by omega
        have q1_ : (k : Int) < (n : Int) := by omega
        have hnq := fun W => idn_neq y1 y2 W
        have hfr := fun op a b xs ys W => idn_free op a b xs ys W
        unfold nmv at hnq
        by_cases hpq : y1 = y2
        · have HX := Lib.hid (take_eq HT.out hy1 hy2 hpq)
          rw [(nmAlike_iff y1 y2).2 hpq] at hnq
          clear hy1 hy2 hpq
          go_wp2
          go_quiet (fail)
          go_wp2
          go_roundw
          case rel => exact ⟨k + 1, _, hlt, by go_num, HX.out, rfl⟩
          case measure => simp [intOf]; omega
        · have HF := Lib.hid (show ¬ xs = ys from fun e => hpq (by rw [e] at hy1; rw [hy1] at hy2; injection hy2))
          rw [show nmAlike y1 y2 = false from by rw [← Bool.not_eq_true, nmAlike_iff]; exact hpq] at hnq
          clear hy1 hy2 hpq
          go_wp2
          go_quiet (fail)
          go_wp2
          go_ret
          exact ⟨false, rfl, ⟨(fun h => nomatch h), fun h => absurd h HF.out⟩, (below_drewN w _ _).trans (below_drewN _ _ _)⟩
      · have hkn : k = n := by omega
        have HE := Lib.hid (show xs = ys by
          have h := HT.out
          rw [List.take_of_length_le (by have := HN.out; omega), List.take_of_length_le (by have := HN'.out; omega)] at h
          exact h)
        subst hkn
        go_wp2
        go_ret
        exact ⟨true, rfl, ⟨fun _ => HE.out, fun _ => rfl⟩, below_drewN w _ _⟩
  · have hd : ((n : Int) != (n' : Int)) = true := by rw [bne_iff_ne]; omega
    have HNE := Lib.hid hne
    clear hne
    go_enter Tryz.func80, Tryz.ntmps80
    go_wp2
    go_ret
    exact ⟨false, rfl, ⟨(fun h => nomatch h), fun h => absurd (by rw [HN.out, HN'.out, h]) HNE.out⟩, Below.refl _ _⟩

set_option maxHeartbeats 2000000 in
theorem eq_bx {w : World} (x y : Ls Bx) (hx : Lz kBx No w x) (hy : Lz kBx No w y) (hb : x.l.length ≤ 1000000) (hb' : y.l.length ≤ 1000000) :
    Calls Tryz.prog 86 #[x.v, y.v] w (Eqd w x.l y.l) := by
  obtain ⟨xs, A, c⟩ := x
  obtain ⟨ys, A', c'⟩ := y
  obtain ⟨n, hn⟩ : ∃ n, n = xs.length := ⟨_, rfl⟩
  obtain ⟨n', hn'⟩ : ∃ n', n' = ys.length := ⟨_, rfl⟩
  have hb : n ≤ 1000000 := by rw [hn]; exact hb
  have hb' : n' ≤ 1000000 := by rw [hn']; exact hb'
  show Calls _ _ #[.slice A xs.length c, .slice A' ys.length c'] w (Eqd w xs ys)
  rw [← hn, ← hn']
  have HN := Lib.hid hn
  have HN' := Lib.hid hn'
  have HA := Lib.hid hx
  have HA' := Lib.hid hy
  clear hn hn' hx hy
  by_cases hne : n = n'
  · subst hne
    go_enter Tryz.func86, Tryz.ntmps86
    go_wp2
    go_loopw [5, 13] (fun _ i wr => ∃ k j : Nat, k ≤ n ∧ i = .int .i64 k ∧ xs.take k = ys.take k ∧ wr = w.drewN j) (fun _ i _ => n - (intOf i).toNat)
    case atStart => exact ⟨0, 0, Nat.zero_le _, rfl, rfl, rfl⟩
    case round =>
      obtain ⟨k, j, hk, rfl, htk, rfl⟩ := hrel
      have HT := Lib.hid htk
      clear htk
      by_cases hlt : k < n
      · obtain ⟨y1, hy1⟩ : ∃ y, xs[k]? = some y := ⟨_, List.getElem?_eq_getElem (by have := HN.out; omega)⟩
        obtain ⟨y2, hy2⟩ : ∃ y, ys[k]? = some y := ⟨_, List.getElem?_eq_getElem (by have := HN'.out; omega)⟩
        obtain ⟨b, off, rfl, hbb, _, p0, p1, p2, p3⟩ := HA.out.bx hy1
        obtain ⟨b2, off2, rfl, hbb2, _, q0, q1, q2, q3⟩ := HA'.out.bx hy2
        have q0_ : (0 : Int) ≤ (k : Int) := by omega
        have q1_ : (k : Int) < (n : Int) := by omega
        have hnq := fun W => bx_neq y1 y2 W
        have hfr := fun op a b xs ys W => bx_free op a b xs ys W
        unfold bxv at hnq
        by_cases hpq : y1 = y2
        · have HX := Lib.hid (take_eq HT.out hy1 hy2 hpq)
          rw [(bxAlike_iff y1 y2).2 hpq] at hnq
          clear hy1 hy2 hpq
          go_wp2
          go_quiet (fail)
          go_wp2
          go_roundw
          case rel => exact ⟨k + 1, _, hlt, by go_num, HX.out, rfl⟩
          case measure => simp [intOf]; omega
        · have HF := Lib.hid (show ¬ xs = ys from fun e => hpq (by rw [e] at hy1; rw [hy1] at hy2; injection hy2))
          rw [show bxAlike y1 y2 = false from by rw [← Bool.not_eq_true, bxAlike_iff]; exact hpq] at hnq
          clear hy1 hy2 hpq
          go_wp2
          go_quiet (fail)
          go_wp2
          go_ret
          exact ⟨false, rfl, ⟨(fun h => nomatch h), fun h => absurd h HF.out⟩, (below_drewN w _ _).trans (below_drewN _ _ _)⟩
      · have hkn : k = n := by omega
        have HE := Lib.hid (show xs = ys by
          have h := HT.out
          rw [List.take_of_length_le (by have := HN.out; omega), List.take_of_length_le (by have := HN'.out; omega)] at h
          exact h)
        subst hkn
        go_wp2
        go_ret
        exact ⟨true, rfl, ⟨fun _ => HE.out, fun _ => rfl⟩, below_drewN w _ _⟩
  · have hd : ((n : Int) != (n' : Int)) = true := by rw [bne_iff_ne]; omega
    have HNE := Lib.hid hne
    clear hne
    go_enter Tryz.func86, Tryz.ntmps86
    go_wp2
    go_ret
    exact ⟨false, rfl, ⟨(fun h => nomatch h), fun h => absurd (by rw [HN.out, HN'.out, h]) HNE.out⟩, Below.refl _ _⟩

set_option maxHeartbeats 2000000 in
theorem eq_u64 {w : World} (x y : Ls Nat) (hx : Lz kU64 No w x) (hy : Lz kU64 No w y) (hb : x.l.length ≤ 1000000) (hb' : y.l.length ≤ 1000000) :
    Calls Tryz.prog 84 #[x.v, y.v] w (Eqd w x.l y.l) := by
  obtain ⟨xs, A, c⟩ := x
  obtain ⟨ys, A', c'⟩ := y
  obtain ⟨n, hn⟩ : ∃ n, n = xs.length := ⟨_, rfl⟩
  obtain ⟨n', hn'⟩ : ∃ n', n' = ys.length := ⟨_, rfl⟩
  have hb : n ≤ 1000000 := by rw [hn]; exact hb
  have hb' : n' ≤ 1000000 := by rw [hn']; exact hb'
  show Calls _ _ #[.slice A xs.length c, .slice A' ys.length c'] w (Eqd w xs ys)
  rw [← hn, ← hn']
  have HN := Lib.hid hn
  have HN' := Lib.hid hn'
  have HA := Lib.hid hx
  have HA' := Lib.hid hy
  clear hn hn' hx hy
  by_cases hne : n = n'
  · subst hne
    go_enter Tryz.func84, Tryz.ntmps84
    go_wp2
    go_loopw [5, 13] (fun _ i wr => ∃ k j : Nat, k ≤ n ∧ i = .int .i64 k ∧ xs.take k = ys.take k ∧ wr = w.drewN j) (fun _ i _ => n - (intOf i).toNat)
    case atStart => exact ⟨0, 0, Nat.zero_le _, rfl, rfl, rfl⟩
    case round =>
      obtain ⟨k, j, hk, rfl, htk, rfl⟩ := hrel
      have HT := Lib.hid htk
      clear htk
      by_cases hlt : k < n
      · obtain ⟨y1, hy1⟩ : ∃ y, xs[k]? = some y := ⟨_, List.getElem?_eq_getElem (by have := HN.out; omega)⟩
        obtain ⟨y2, hy2⟩ : ∃ y, ys[k]? = some y := ⟨_, List.getElem?_eq_getElem (by have := HN'.out; omega)⟩
        obtain ⟨b, off, rfl, hbb, _, p0⟩ := HA.out.u64 hy1
        obtain ⟨b2, off2, rfl, hbb2, _, q0⟩ := HA'.out.u64 hy2
        have q0_ : (0 : Int) ≤ (k : Int) := by omega
        have q1_ : (k : Int) < (n : Int) := by omega
        by_cases hpq : y1 = y2
        · have HX := Lib.hid (take_eq HT.out hy1 hy2 hpq)
          have hd : ((y1 : Int) != (y2 : Int)) = false := by rw [hpq]; simp
          clear hy1 hy2 hpq
          go_wp2
          go_quiet (fail)
          go_wp2
          go_roundw
          case rel => exact ⟨k + 1, _, hlt, by go_num, HX.out, rfl⟩
          case measure => simp [intOf]; omega
        · have HF := Lib.hid (show ¬ xs = ys from fun e => hpq (by rw [e] at hy1; rw [hy1] at hy2; injection hy2))
          have hd : ((y1 : Int) != (y2 : Int)) = true := by rw [bne_iff_ne]; omega
          clear hy1 hy2 hpq
          go_wp2
          go_quiet (fail)
          go_wp2
          go_ret
          exact ⟨false, rfl, ⟨(fun h => nomatch h), fun h => absurd h HF.out⟩, (below_drewN w _ _).trans (below_drewN _ _ _)⟩
      · have hkn : k = n := by omega
        have HE := Lib.hid (show xs = ys by
          have h := HT.out
          rw [List.take_of_length_le (by have := HN.out; omega), List.take_of_length_le (by have := HN'.out; omega)] at h
          exact h)
        subst hkn
        go_wp2
        go_ret
        exact ⟨true, rfl, ⟨fun _ => HE.out, fun _ => rfl⟩, below_drewN w _ _⟩
  · have hd : ((n : Int) != (n' : Int)) = true := by rw [bne_iff_ne]; omega
    have HNE := Lib.hid hne
    clear hne
    go_enter Tryz.func84, Tryz.ntmps84
    go_wp2
    go_ret
    exact ⟨false, rfl, ⟨(fun h => nomatch h), fun h => absurd (by rw [HN.out, HN'.out, h]) HNE.out⟩, Below.refl _ _⟩

set_option maxHeartbeats 2000000 in
theorem eq_int {w : World} (x y : Ls Int) (hx : Lz kInt No w x) (hy : Lz kInt No w y) (hb : x.l.length ≤ 1000000) (hb' : y.l.length ≤ 1000000) :
    Calls Tryz.prog 85 #[x.v, y.v] w (Eqd w x.l y.l) := by
  obtain ⟨xs, A, c⟩ := x
  obtain ⟨ys, A', c'⟩ := y
  obtain ⟨n, hn⟩ : ∃ n, n = xs.length := ⟨_, rfl⟩
  obtain ⟨n', hn'⟩ : ∃ n', n' = ys.length := ⟨_, rfl⟩
  have hb : n ≤ 1000000 := by rw [hn]; exact hb
  have hb' : n' ≤ 1000000 := by rw [hn']; exact hb'
  show Calls _ _ #[.slice A xs.length c, .slice A' ys.length c'] w (Eqd w xs ys)
  rw [← hn, ← hn']
  have HN := Lib.hid hn
  have HN' := Lib.hid hn'
  have HA := Lib.hid hx
  have HA' := Lib.hid hy
  clear hn hn' hx hy
  by_cases hne : n = n'
  · subst hne
    go_enter Tryz.func85, Tryz.ntmps85
    go_wp2
    go_loopw [5, 13] (fun _ i wr => ∃ k j : Nat, k ≤ n ∧ i = .int .i64 k ∧ xs.take k = ys.take k ∧ wr = w.drewN j) (fun _ i _ => n - (intOf i).toNat)
    case atStart => exact ⟨0, 0, Nat.zero_le _, rfl, rfl, rfl⟩
    case round =>
      obtain ⟨k, j, hk, rfl, htk, rfl⟩ := hrel
      have HT := Lib.hid htk
      clear htk
      by_cases hlt : k < n
      · obtain ⟨y1, hy1⟩ : ∃ y, xs[k]? = some y := ⟨_, List.getElem?_eq_getElem (by have := HN.out; omega)⟩
        obtain ⟨y2, hy2⟩ : ∃ y, ys[k]? = some y := ⟨_, List.getElem?_eq_getElem (by have := HN'.out; omega)⟩
        obtain ⟨b, off, rfl, hbb, _, p0⟩ := HA.out.int hy1
        obtain ⟨b2, off2, rfl, hbb2, _, q0⟩ := HA'.out.int hy2
        have q0_ : (0 : Int) ≤ (k : Int) := by omega
        have q1_ : (k : Int) < (n : Int) := by omega
        by_cases hpq : y1 = y2
        · have HX := Lib.hid (take_eq HT.out hy1 hy2 hpq)
          have hd : (y1 != y2) = false := by rw [hpq]; simp
          clear hy1 hy2 hpq
          go_wp2
          go_quiet (fail)
          go_wp2
          go_roundw
          case rel => exact ⟨k + 1, _, hlt, by go_num, HX.out, rfl⟩
          case measure => simp [intOf]; omega
        · have HF := Lib.hid (show ¬ xs = ys from fun e => hpq (by rw [e] at hy1; rw [hy1] at hy2; injection hy2))
          have hd : (y1 != y2) = true := by rw [bne_iff_ne]; exact hpq
          clear hy1 hy2 hpq
          go_wp2
          go_quiet (fail)
          go_wp2
          go_ret
          exact ⟨false, rfl, ⟨(fun h => nomatch h), fun h => absurd h HF.out⟩, (below_drewN w _ _).trans (below_drewN _ _ _)⟩
      · have hkn : k = n := by omega
        have HE := Lib.hid (show xs = ys by
          have h := HT.out
          rw [List.take_of_length_le (by have := HN.out; omega), List.take_of_length_le (by have := HN'.out; omega)] at h
          exact h)
        subst hkn
        go_wp2
        go_ret
        exact ⟨true, rfl, ⟨fun _ => HE.out, fun _ => rfl⟩, below_drewN w _ _⟩
  · have hd : ((n : Int) != (n' : Int)) = true := by rw [bne_iff_ne]; omega
    have HNE := Lib.hid hne
    clear hne
    go_enter Tryz.func85, Tryz.ntmps85
    go_wp2
    go_ret
    exact ⟨false, rfl, ⟨(fun h => nomatch h), fun h => absurd (by rw [HN.out, HN'.out, h]) HNE.out⟩, Below.refl _ _⟩

theorem eq_bytes {w : World} (x y : Ls UInt8) (hx : Lz kU8 No w x) (hy : Lz kU8 No w y) :
    Calls Tryz.prog 83 #[x.v, y.v] w (Eqd w x.l y.l) := by
  obtain ⟨xs, A, c⟩ := x
  obtain ⟨ys, A', c'⟩ := y
  obtain ⟨n, hn⟩ : ∃ n, n = xs.length := ⟨_, rfl⟩
  obtain ⟨n', hn'⟩ : ∃ n', n' = ys.length := ⟨_, rfl⟩
  have h1 := cu_conv_rd A n c _ w xs hn hx.rd8
  have h2 := cu_conv_rd A' n' c' _ w ys hn' hy.rd8
  show Calls _ _ #[.slice A xs.length c, .slice A' ys.length c'] w (Eqd w xs ys)
  rw [← hn, ← hn']
  obtain ⟨s, hs⟩ : ∃ s : ByteArray, s = ⟨xs.toArray⟩ := ⟨_, rfl⟩
  obtain ⟨t, ht⟩ : ∃ t : ByteArray, t = ⟨ys.toArray⟩ := ⟨_, rfl⟩
  have h3 : (s.toList == t.toList) = true ↔ xs = ys := by
    rw [hs, ht, ByteArray.toList_eq, ByteArray.toList_eq]
    simp
  rw [← hs] at h1
  rw [← ht] at h2
  have H3 := Lib.hid h3
  clear hs ht hn hn' hx hy h3
  go_enter Tryz.func83, Tryz.ntmps83
  go_wp2
  go_ret
  exact ⟨(s.toList == t.toList), rfl, H3.out, Below.refl _ _⟩
theorem eq_nd_item {w : World} (x y : LNd) (hx : Lz kBx No w x.boxes) (hy : Lz kBx No w y.boxes) (ho : okNd x.er) (ho' : okNd y.er) :
    Calls Tryz.prog 82 #[.agg #[.int .u64 (x.pub : Int), .slice x.boxes.A x.boxes.l.length x.boxes.c], .agg #[.int .u64 (y.pub : Int), .slice y.boxes.A y.boxes.l.length y.boxes.c]] w (Eqd w x.er y.er) := by
  have hb1 := (Below.refl w.heap.size w).alloc (Nat.le_refl _) (.cells #[.int .u64 (x.pub : Int), .slice x.boxes.A x.boxes.l.length x.boxes.c] 66)
  have hb2 := hb1.alloc (by simp) (.cells #[.int .u64 (y.pub : Int), .slice y.boxes.A y.boxes.l.length y.boxes.c] 66)
  have HE := Lib.hid (eq_bx x.boxes y.boxes (hx.bf (Bf.below hb2)) (hy.bf (Bf.below hb2)) (Nat.le_trans ho.2.1 (by decide)) (Nat.le_trans ho'.2.1 (by decide)))
  have HB := Lib.hid hb2
  obtain ⟨p, b⟩ := x
  obtain ⟨p', b'⟩ := y
  clear hb1 hb2 hx hy ho ho'
  by_cases hp : p = p'
  · have hd : ((p : Int) == (p' : Int)) = true := by rw [hp]; simp
    have HP := Lib.hid hp
    clear hp
    go_enter Tryz.func82, Tryz.ntmps82
    go_wp2_with fail
    refine (HE.out).mono ?_
    rintro e w1 ⟨r, rfl, hr, hb⟩
    have HR := Lib.hid hr
    have HB1 := Lib.hid (HB.out.trans (hb.mono (HB.out.size)))
    clear hr hb HE
    go_wp2
    go_ret
    refine ⟨r, rfl, HR.out.trans ⟨fun h => ?_, fun h => ?_⟩, HB1.out⟩
    · show Nd.mk p b.l = Nd.mk p' b'.l
      rw [HP.out, h]
    · injection h
  · have hd : ((p : Int) == (p' : Int)) = false := by rw [beq_eq_false_iff_ne]; omega
    have HP := Lib.hid hp
    clear hp HE
    go_enter Tryz.func82, Tryz.ntmps82
    go_wp2
    go_ret
    exact ⟨false, rfl, ⟨(fun h => nomatch h), fun h => absurd (by injection h) HP.out⟩, HB.out⟩
theorem eq_sd_item {w : World} (x y : LSd) (hx : Lz kU8 No w x.body) (hy : Lz kU8 No w y.body) :
    Calls Tryz.prog 88 #[.agg #[.int .i64 x.nm.a, .int .i64 x.nm.b, .int .u64 (x.nm.c : Int), .slice x.body.A x.body.l.length x.body.c], .agg #[.int .i64 y.nm.a, .int .i64 y.nm.b, .int .u64 (y.nm.c : Int), .slice y.body.A y.body.l.length y.body.c]] w (Eqd w x.er y.er) := by
  have hb1 := (Below.refl w.heap.size w).alloc (Nat.le_refl _) (.cells #[.int .i64 x.nm.a, .int .i64 x.nm.b, .int .u64 (x.nm.c : Int), .slice x.body.A x.body.l.length x.body.c] 81)
  have hb2 := hb1.alloc (by simp) (.cells #[.int .i64 y.nm.a, .int .i64 y.nm.b, .int .u64 (y.nm.c : Int), .slice y.body.A y.body.l.length y.body.c] 81)
  have HE := Lib.hid (eq_bytes x.body y.body (hx.bf (Bf.below hb2)) (hy.bf (Bf.below hb2)))
  have HB := Lib.hid hb2
  obtain ⟨p, b⟩ := x
  obtain ⟨p', b'⟩ := y
  clear hb1 hb2 hx hy
  have hnq := fun W => idn_eql p p' W
  have hfr := fun op a b xs ys W => idn_free op a b xs ys W
  unfold nmv at hnq
  by_cases hp : p = p'
  · rw [(nmAlike_iff p p').2 hp] at hnq
    have HP := Lib.hid hp
    clear hp
    go_enter Tryz.func88, Tryz.ntmps88
    go_wp2_with fail
    refine (HE.out).mono ?_
    rintro e w1 ⟨r, rfl, hr, hb⟩
    have HR := Lib.hid hr
    have HB1 := Lib.hid (HB.out.trans (hb.mono (HB.out.size)))
    clear hr hb HE
    go_wp2
    go_ret
    refine ⟨r, rfl, HR.out.trans ⟨fun h => ?_, fun h => ?_⟩, HB1.out⟩
    · show Sd.mk p b.l = Sd.mk p' b'.l
      rw [HP.out, h]
    · injection h
  · rw [show nmAlike p p' = false from by rw [← Bool.not_eq_true, nmAlike_iff]; exact hp] at hnq
    have HP := Lib.hid hp
    clear hp HE
    go_enter Tryz.func88, Tryz.ntmps88
    go_wp2
    go_ret
    exact ⟨false, rfl, ⟨(fun h => nomatch h), fun h => absurd (by injection h) HP.out⟩, HB.out⟩

set_option maxHeartbeats 2000000 in
theorem eq_nd {w : World} (x y : Ls LNd) (hx : Lz kNd No w x) (hy : Lz kNd No w y) (hb : x.l.length ≤ 1000000) (hb' : y.l.length ≤ 1000000) (hnx : ∀ z ∈ x.l, Lz kBx No w z.boxes ∧ okNd z.er) (hny : ∀ z ∈ y.l, Lz kBx No w z.boxes ∧ okNd z.er) :
    Calls Tryz.prog 81 #[x.v, y.v, .func (.func 82) #[] #[]] w (Eqd w (x.l.map LNd.er) (y.l.map LNd.er)) := by
  obtain ⟨xs, A, c⟩ := x
  obtain ⟨ys, A', c'⟩ := y
  obtain ⟨n, hn⟩ : ∃ n, n = xs.length := ⟨_, rfl⟩
  obtain ⟨n', hn'⟩ : ∃ n', n' = ys.length := ⟨_, rfl⟩
  have hb : n ≤ 1000000 := by rw [hn]; exact hb
  have hb' : n' ≤ 1000000 := by rw [hn']; exact hb'
  show Calls _ _ #[.slice A xs.length c, .slice A' ys.length c', _] w (Eqd w (xs.map LNd.er) (ys.map LNd.er))
  rw [← hn, ← hn']
  have HN := Lib.hid hn
  have HN' := Lib.hid hn'
  have HA := Lib.hid hx
  have HA' := Lib.hid hy
  have HNX := Lib.hid hnx
  have HNY := Lib.hid hny
  clear hn hn' hx hy hnx hny
  by_cases hne : n = n'
  · subst hne
    go_enter Tryz.func81, Tryz.ntmps81
    go_wp2
    go_loopw [7, 8, 9, 17] (fun _ _ _ i wr => ∃ k : Nat, k ≤ n ∧ i = .int .i64 k ∧ (xs.map LNd.er).take k = (ys.map LNd.er).take k ∧ Below w.heap.size w wr) (fun _ _ _ i _ => n - (intOf i).toNat)
    case atStart => exact ⟨0, Nat.zero_le _, rfl, rfl, Below.refl _ _⟩
    case round =>
      obtain ⟨k, hk, rfl, htk, hbel⟩ := hrel
      have HT := Lib.hid htk
      clear htk
      by_cases hlt : k < n
      · obtain ⟨y1, hy1⟩ : ∃ y, xs[k]? = some y := ⟨_, List.getElem?_eq_getElem (by have := HN.out; omega)⟩
        obtain ⟨y2, hy2⟩ : ∃ y, ys[k]? = some y := ⟨_, List.getElem?_eq_getElem (by have := HN'.out; omega)⟩
        obtain ⟨b, off, rfl, hbb, _, p0, p1⟩ := (HA.out.bf (Bf.below hbel)).nd hy1
        obtain ⟨b2, off2, rfl, hbb2, _, q0, q1⟩ := (HA'.out.bf (Bf.below hbel)).nd hy2
        have q0_ : (0 : Int) ≤ (k : Int) := by omega
        have q1_ : (k : Int) < (n : Int) := by omega
        have hbA := hbel.alloc hbel.size (.cells #[.int .u64 (y1.pub : Int), .slice y1.boxes.A y1.boxes.l.length y1.boxes.c] 66)
        have hbB := hbA.alloc hbA.size (.cells #[.int .u64 (y2.pub : Int), .slice y2.boxes.A y2.boxes.l.length y2.boxes.c] 66)
        have HC := Lib.hid (eq_nd_item y1 y2 ((HNX.out y1 (List.mem_of_getElem? hy1)).1.bf (Bf.below hbB)) ((HNY.out y2 (List.mem_of_getElem? hy2)).1.bf (Bf.below hbB)) (HNX.out y1 (List.mem_of_getElem? hy1)).2 (HNY.out y2 (List.mem_of_getElem? hy2)).2)
        have HB := Lib.hid hbB
        have HE1 := Lib.hid (show (xs.map LNd.er)[k]? = some y1.er by rw [List.getElem?_map, hy1]; rfl)
        have HE2 := Lib.hid (show (ys.map LNd.er)[k]? = some y2.er by rw [List.getElem?_map, hy2]; rfl)
        have hq3 : w.heap.size ≤ wr.heap.size := hbel.size
        have r1 := Lib.hid hbel
        have g0 : (wr.alloc (.cells #[.int .u64 (y1.pub : Int), .slice y1.boxes.A y1.boxes.l.length y1.boxes.c] 66)).cell? ⟨b2, off2 + k * 2, none⟩ = wr.cell? ⟨b2, off2 + k * 2, none⟩ := (((Below.refl _ wr).alloc (Nat.le_refl _) _).cell (p := ⟨b2, _, none⟩) hbb2)
        have s0 : (wr.alloc (.cells #[.int .u64 (y1.pub : Int), .slice y1.boxes.A y1.boxes.l.length y1.boxes.c] 66)).cell? ⟨b2, off2 + k * 2, none⟩ = _ := (((Below.refl _ wr).alloc (Nat.le_refl _) _).cell (p := ⟨b2, _, none⟩) hbb2).trans q0
        have s1 : (wr.alloc (.cells #[.int .u64 (y1.pub : Int), .slice y1.boxes.A y1.boxes.l.length y1.boxes.c] 66)).cell? ⟨b2, off2 + k * 2 + 1, none⟩ = _ := (((Below.refl _ wr).alloc (Nat.le_refl _) _).cell (p := ⟨b2, _, none⟩) hbb2).trans q1
        clear hbA hbB hy1 hy2 hbel
        go_wp2_with fail
        go_at_call 82
        refine (HC.out).mono ?_
        rintro e w2 ⟨r, rfl, hr, hb2⟩
        have HR := Lib.hid hr
        have HB2 := Lib.hid (HB.out.trans (hb2.mono HB.out.size))
        clear hr hb2 HC
        cases r with
        | true =>
          have HRT := Lib.hid (HR.out.1 rfl)
          clear HR
          go_wp2
          go_roundw
          case rel => exact ⟨k + 1, hlt, by go_num, take_eq HT.out HE1.out HE2.out HRT.out, HB2.out⟩
          case measure => simp [intOf]; omega
        | false =>
          have HRF := Lib.hid (show ¬ y1.er = y2.er from fun h => by have := HR.out.2 h; cases this)
          clear HR
          go_wp2
          go_ret
          exact ⟨false, rfl, ⟨(fun h => nomatch h), fun h => by
            have h1 := HE1.out
            rw [h, HE2.out] at h1
            injection h1 with h1
            exact absurd h1.symm HRF.out⟩, HB2.out⟩
      · have hkn : k = n := by omega
        have HE := Lib.hid (show xs.map LNd.er = ys.map LNd.er by
          have h := HT.out
          rw [List.take_of_length_le (by rw [List.length_map]; have := HN.out; omega), List.take_of_length_le (by rw [List.length_map]; have := HN'.out; omega)] at h
          exact h)
        have HB := Lib.hid hbel
        subst hkn
        clear hbel
        go_wp2
        go_ret
        exact ⟨true, rfl, ⟨fun _ => HE.out, fun _ => rfl⟩, HB.out⟩
  · have hd : ((n : Int) != (n' : Int)) = true := by rw [bne_iff_ne]; omega
    have HNE := Lib.hid hne
    clear hne
    go_enter Tryz.func81, Tryz.ntmps81
    go_wp2
    go_ret
    exact ⟨false, rfl, ⟨(fun h => nomatch h), fun h => absurd (by
      have := congrArg List.length h
      rw [List.length_map, List.length_map] at this
      rw [HN.out, HN'.out, this]) HNE.out⟩, Below.refl _ _⟩

set_option maxHeartbeats 2000000 in
theorem eq_sd {w : World} (x y : Ls LSd) (hx : Lz kSd No w x) (hy : Lz kSd No w y) (hb : x.l.length ≤ 1000000) (hb' : y.l.length ≤ 1000000) (hnx : ∀ z ∈ x.l, Lz kU8 No w z.body ∧ okSd z.er) (hny : ∀ z ∈ y.l, Lz kU8 No w z.body ∧ okSd z.er) :
    Calls Tryz.prog 87 #[x.v, y.v, .func (.func 88) #[] #[]] w (Eqd w (x.l.map LSd.er) (y.l.map LSd.er)) := by
  obtain ⟨xs, A, c⟩ := x
  obtain ⟨ys, A', c'⟩ := y
  obtain ⟨n, hn⟩ : ∃ n, n = xs.length := ⟨_, rfl⟩
  obtain ⟨n', hn'⟩ : ∃ n', n' = ys.length := ⟨_, rfl⟩
  have hb : n ≤ 1000000 := by rw [hn]; exact hb
  have hb' : n' ≤ 1000000 := by rw [hn']; exact hb'
  show Calls _ _ #[.slice A xs.length c, .slice A' ys.length c', _] w (Eqd w (xs.map LSd.er) (ys.map LSd.er))
  rw [← hn, ← hn']
  have HN := Lib.hid hn
  have HN' := Lib.hid hn'
  have HA := Lib.hid hx
  have HA' := Lib.hid hy
  have HNX := Lib.hid hnx
  have HNY := Lib.hid hny
  clear hn hn' hx hy hnx hny
  by_cases hne : n = n'
  · subst hne
    go_enter Tryz.func87, Tryz.ntmps87
    go_wp2
    go_loopw [7, 8, 9, 17] (fun _ _ _ i wr => ∃ k : Nat, k ≤ n ∧ i = .int .i64 k ∧ (xs.map LSd.er).take k = (ys.map LSd.er).take k ∧ Below w.heap.size w wr) (fun _ _ _ i _ => n - (intOf i).toNat)
    case atStart => exact ⟨0, Nat.zero_le _, rfl, rfl, Below.refl _ _⟩
    case round =>
      obtain ⟨k, hk, rfl, htk, hbel⟩ := hrel
      have HT := Lib.hid htk
      clear htk
      by_cases hlt : k < n
      · obtain ⟨y1, hy1⟩ : ∃ y, xs[k]? = some y := ⟨_, List.getElem?_eq_getElem (by have := HN.out; omega)⟩
        obtain ⟨y2, hy2⟩ : ∃ y, ys[k]? = some y := ⟨_, List.getElem?_eq_getElem (by have := HN'.out; omega)⟩
        obtain ⟨b, off, rfl, hbb, _, p0, p1, p2, p3⟩ := (HA.out.bf (Bf.below hbel)).sd hy1
        obtain ⟨b2, off2, rfl, hbb2, _, q0, q1, q2, q3⟩ := (HA'.out.bf (Bf.below hbel)).sd hy2
        have q0_ : (0 : Int) ≤ (k : Int) := by omega
        have q1_ : (k : Int) < (n : Int) := by omega
        have hbA := hbel.alloc hbel.size (.cells #[.int .i64 y1.nm.a, .int .i64 y1.nm.b, .int .u64 (y1.nm.c : Int), .slice y1.body.A y1.body.l.length y1.body.c] 81)
        have hbB := hbA.alloc hbA.size (.cells #[.int .i64 y2.nm.a, .int .i64 y2.nm.b, .int .u64 (y2.nm.c : Int), .slice y2.body.A y2.body.l.length y2.body.c] 81)
        have HC := Lib.hid (eq_sd_item y1 y2 ((HNX.out y1 (List.mem_of_getElem? hy1)).1.bf (Bf.below hbB)) ((HNY.out y2 (List.mem_of_getElem? hy2)).1.bf (Bf.below hbB)))
        have HB := Lib.hid hbB
        have HE1 := Lib.hid (show (xs.map LSd.er)[k]? = some y1.er by rw [List.getElem?_map, hy1]; rfl)
        have HE2 := Lib.hid (show (ys.map LSd.er)[k]? = some y2.er by rw [List.getElem?_map, hy2]; rfl)
        have hq3 : w.heap.size ≤ wr.heap.size := hbel.size
        have r1 := Lib.hid hbel
        have g0 : (wr.alloc (.cells #[.int .i64 y1.nm.a, .int .i64 y1.nm.b, .int .u64 (y1.nm.c : Int), .slice y1.body.A y1.body.l.length y1.body.c] 81)).cell? ⟨b2, off2 + k * 4, none⟩ = wr.cell? ⟨b2, off2 + k * 4, none⟩ := (((Below.refl _ wr).alloc (Nat.le_refl _) _).cell (p := ⟨b2, _, none⟩) hbb2)
        have s0 : (wr.alloc (.cells #[.int .i64 y1.nm.a, .int .i64 y1.nm.b, .int .u64 (y1.nm.c : Int), .slice y1.body.A y1.body.l.length y1.body.c] 81)).cell? ⟨b2, off2 + k * 4, none⟩ = _ := (((Below.refl _ wr).alloc (Nat.le_refl _) _).cell (p := ⟨b2, _, none⟩) hbb2).trans q0
        have s1 : (wr.alloc (.cells #[.int .i64 y1.nm.a, .int .i64 y1.nm.b, .int .u64 (y1.nm.c : Int), .slice y1.body.A y1.body.l.length y1.body.c] 81)).cell? ⟨b2, off2 + k * 4 + 1, none⟩ = _ := (((Below.refl _ wr).alloc (Nat.le_refl _) _).cell (p := ⟨b2, _, none⟩) hbb2).trans q1
        have s2 : (wr.alloc (.cells #[.int .i64 y1.nm.a, .int .i64 y1.nm.b, .int .u64 (y1.nm.c : Int), .slice y1.body.A y1.body.l.length y1.body.c] 81)).cell? ⟨b2, off2 + k * 4 + 2, none⟩ = _ := (((Below.refl _ wr).alloc (Nat.le_refl _) _).cell (p := ⟨b2, _, none⟩) hbb2).trans q2
        have s3 : (wr.alloc (.cells #[.int .i64 y1.nm.a, .int .i64 y1.nm.b, .int .u64 (y1.nm.c : Int), .slice y1.body.A y1.body.l.length y1.body.c] 81)).cell? ⟨b2, off2 + k * 4 + 3, none⟩ = _ := (((Below.refl _ wr).alloc (Nat.le_refl _) _).cell (p := ⟨b2, _, none⟩) hbb2).trans q3
        clear hbA hbB hy1 hy2 hbel
        go_wp2_with fail
        go_at_call 88
        refine (HC.out).mono ?_
        rintro e w2 ⟨r, rfl, hr, hb2⟩
        have HR := Lib.hid hr
        have HB2 := Lib.hid (HB.out.trans (hb2.mono HB.out.size))
        clear hr hb2 HC
        cases r with
        | true =>
          have HRT := Lib.hid (HR.out.1 rfl)
          clear HR
          go_wp2
          go_roundw
          case rel => exact ⟨k + 1, hlt, by go_num, take_eq HT.out HE1.out HE2.out HRT.out, HB2.out⟩
          case measure => simp [intOf]; omega
        | false =>
          have HRF := Lib.hid (show ¬ y1.er = y2.er from fun h => by have := HR.out.2 h; cases this)
          clear HR
          go_wp2
          go_ret
          exact ⟨false, rfl, ⟨(fun h => nomatch h), fun h => by
            have h1 := HE1.out
            rw [h, HE2.out] at h1
            injection h1 with h1
            exact absurd h1.symm HRF.out⟩, HB2.out⟩
      · have hkn : k = n := by omega
        have HE := Lib.hid (show xs.map LSd.er = ys.map LSd.er by
          have h := HT.out
          rw [List.take_of_length_le (by rw [List.length_map]; have := HN.out; omega), List.take_of_length_le (by rw [List.length_map]; have := HN'.out; omega)] at h
          exact h)
        have HB := Lib.hid hbel
        subst hkn
        clear hbel
        go_wp2
        go_ret
        exact ⟨true, rfl, ⟨fun _ => HE.out, fun _ => rfl⟩, HB.out⟩
  · have hd : ((n : Int) != (n' : Int)) = true := by rw [bne_iff_ne]; omega
    have HNE := Lib.hid hne
    clear hne
    go_enter Tryz.func87, Tryz.ntmps87
    go_wp2
    go_ret
    exact ⟨false, rfl, ⟨(fun h => nomatch h), fun h => absurd (by
      have := congrArg List.length h
      rw [List.length_map, List.length_map] at this
      rw [HN.out, HN'.out, this]) HNE.out⟩, Below.refl _ _⟩

end Ot
end Go.Proofs.YtkicjjcangkneaaGreatDoor
