/-
  Signatures in variables, and compared; the document's example of chapter 8 holds; the statements' calls told of slices that can be read. No condition but what is said.
-/
import Derived.Test.YtdiacpadbndncaaSgh
import Derived.Laws.StructEq
namespace Go.Proofs.Ytdiacpadbndncaa
open Go.RowKit

/-! ### a signature in a variable -/
def In2 (w : World) (R r s : Nat) : Prop := R < w.heap.size ∧ Blk w R 28 #[.int .u64 (r : Int), .int .u64 (s : Int)]
theorem In2.below {w w' : World} {R r s : Nat} (h : In2 w R r s) (hb : Below w.heap.size w w') : In2 w' R r s := ⟨Nat.lt_of_lt_of_le h.1 hb.size, h.2.below hb h.1⟩
theorem In2.new {w : World} {R r s : Nat} (h : In2 w R r s) (o : Obj) : In2 (w.alloc o) R r s := h.below ((Below.refl _ w).alloc (Nat.le_refl _) _)
theorem in2_new (w : World) (r s : Nat) : In2 (w.alloc (.cells #[.int .u64 (r : Int), .int .u64 (s : Int)] 28)) w.heap.size r s := ⟨by simp, blk_new _ _ _⟩
theorem In2.kept {w : World} {R R' i r s : Nat} {u : Value} (h : In2 w R r s) (hR : R ≠ R') : In2 (w.setCell ⟨R', i, none⟩ u) R r s :=
  ⟨Nat.lt_of_lt_of_le h.1 (by simp [World.setCell]), (Below.heap_setCell w ⟨R', i, none⟩ u R hR).trans h.2⟩
theorem In2.set0 {w : World} {R r s : Nat} (h : In2 w R r s) (y : Nat) : In2 (w.setCell ⟨R, 0, none⟩ (.int .u64 (y : Int))) R y s :=
  ⟨Nat.lt_of_lt_of_le h.1 (by simp [World.setCell]), h.2.set_ 0 (.int .u64 (y : Int))⟩
theorem In2.set1 {w : World} {R r s : Nat} (h : In2 w R r s) (y : Nat) : In2 (w.setCell ⟨R, 1, none⟩ (.int .u64 (y : Int))) R r y :=
  ⟨Nat.lt_of_lt_of_le h.1 (by simp [World.setCell]), h.2.set_ 1 (.int .u64 (y : Int))⟩
theorem In2.cells {w : World} {R r s : Nat} (h : In2 w R r s) : w.cell? ⟨R, 0, none⟩ = some (.int .u64 (r : Int)) ∧ w.cell? ⟨R, 1, none⟩ = some (.int .u64 (s : Int)) := sig_cells h.2
theorem In2.free {w : World} {R r s : Nat} (h : In2 w R r s) : w.frozen? ⟨R, 0, none⟩ = false ∧ w.frozen? ⟨R, 1, none⟩ = false := ⟨h.2.frozen 0, h.2.frozen 1⟩
theorem below_setw {w0 w : World} {R n i : Nat} {u : Value} (h : Below n w0 w) (hn : n ≤ R) (hR : R < w.heap.size) : Below n w0 (w.setCell ⟨R, i, none⟩ u) :=
  h.trans (below_only (only_set (only_refl w _) i u) hn (by omega))
theorem Bt.kept {w : World} {A : Option Addr} {n c : Nat} {l : List UInt8} (h : Bt w A n c l) {R i : Nat} {u : Value} (hb : Below w.heap.size w (w.setCell ⟨R, i, none⟩ u)) : Bt (w.setCell ⟨R, i, none⟩ u) A n c l := h.below hb

/-! ### signatures compared -/
namespace Sg
def alike (a b a' b' : Nat) : Bool := decide (a = a' ∧ b = b')
end Sg
theorem sig_under : Try.prog.underlying 28 = some (.struct (Try.prog.fieldsOf 28)) := by kernel_rfl
theorem sig_held : Try.prog.stoodInHeld 28 = false := by kernel_rfl
theorem sig_guard : Try.prog.eqGuardType Try.prog.depth 28 = false := by kernel_rfl
theorem sig_same (a b a' b' : Nat) (w : World) (n : Nat) :
    (Op.equalIn (n + 2) 28 (.agg #[.int .u64 (a : Int), .int .u64 (b : Int)]) (.agg #[.int .u64 (a' : Int), .int .u64 (b' : Int)])).run Try.prog w = .ok (Sg.alike a b a' b') w := by
  rw [run_equalIn_struct w (n + 1) 28 _ _ sig_under sig_held]
  have hf : (Try.prog.fieldsOf 28).toList = [{ name := "R", type := 22, offset := 0, embedded := false, tag := "", pkgPath := "", byteOffset := 0 },
          { name := "S", type := 22, offset := 1, embedded := false, tag := "", pkgPath := "", byteOffset := 8 }] := by
    simp [Program.fieldsOf, Try.underlying28]
  rw [hf]
  have hi := fun (w : World) (x y : Nat) => run_equalIn_int (P := Try.prog) w n 22 .u64 .u64 (x : Int) (y : Int) Try.underlying22
  have e : ∀ x y : Nat, ((x : Int) == (y : Int)) = decide (x = y) := fun x y => by
    by_cases h : x = y
    · rw [decide_eq_true h, beq_iff_eq]; omega
    · rw [decide_eq_false h, beq_eq_false_iff_ne]; omega
  have hp := fun (w : World) (xs : Array Value) (i : Nat) (v : Value) (h : xs[i]? = some v) => (show (part 22 xs i).run Try.prog w = .ok v w by simp [part, isAgg, go_sem, run_underlying Try.underlying22, h])
  have h0 := fun (w : World) (x0 x1 : Nat) => hp w #[.int .u64 (x0 : Int), .int .u64 (x1 : Int)] 0 _ rfl
  have h1 := fun (w : World) (x0 x1 : Nat) => hp w #[.int .u64 (x0 : Int), .int .u64 (x1 : Int)] 1 _ rfl
  unfold Sg.alike
  by_cases q1 : a = a' <;> by_cases q2 : b = b' <;>
    simp [Op.eqFields, Sem.run_bind, hi, h0, h1, e, q1, q2, Result.andThen_ok, Sem.run_ite, Sem.run_pure]
theorem sig_eql (a b a' b' : Nat) (w : World) :
    (binOp .eql 28 (.agg #[.int .u64 (a : Int), .int .u64 (b : Int)]) (.agg #[.int .u64 (a' : Int), .int .u64 (b' : Int)])).run Try.prog w = .ok (.bool (Sg.alike a b a' b')) w := by
  rw [run_eql_struct, sig_same]
  rfl
theorem sig_neq (a b a' b' : Nat) (w : World) :
    (binOp .neq 28 (.agg #[.int .u64 (a : Int), .int .u64 (b : Int)]) (.agg #[.int .u64 (a' : Int), .int .u64 (b' : Int)])).run Try.prog w = .ok (.bool (!Sg.alike a b a' b')) w := by
  rw [run_neq_struct, sig_same]
  rfl
theorem sig_free (op : BinOp) (x y : Operand) (xs ys : Array Value) (w : World) : (eqGuard op 28 x y (.agg xs) (.agg ys)).run Try.prog w = .ok () w :=
  run_eqGuard_agg w op 28 x y xs ys sig_guard

/-! ### the calls, told of values -/
theorem sec8_v (n : Nat) (w : World) : Calls Try.prog 11 #[.int .u64 n] w fun e w' => (∃ a : Nat, 1 ≤ a ∧ a ≤ 2305843009213693949 ∧ e = .returned (.int .u64 (a : Nat))) ∧ Below w.heap.size w w' :=
  (r8secret_any n w).mono fun _ _ ⟨h, e⟩ => ⟨h, e ▸ Below.refl _ _⟩
/-- The numbers of a signature by a secret. -/
def By (s m r x : Nat) : Prop := r = Sg.R s m ∧ x = Sg.S s m ∧ r < 2305843009213693951 ∧ x < 2305843009213693950
theorem sign_v {w : World} {A : Option Addr} {n c : Nat} {l : List UInt8} (s : Nat) (h : Bt w A n c l) (hn : n ≤ 1000000) (hs : s ≤ 2305843009213693949) :
    Calls Try.prog 14 #[.int .u64 s, .slice A n c] w fun e w' => (∃ r x : Nat, e = .returned (.agg #[.int .u64 (r : Int), .int .u64 (x : Int)]) ∧ By s (Sg.msg l) r x) ∧ Below w.heap.size w w' :=
  (sign_any h hn s (by omega)).mono fun _ _ ⟨h, hb⟩ => ⟨⟨_, _, h, rfl, rfl, Sg.R_lt _ _, Sg.S_lt _ _⟩, hb⟩
theorem rsign_v {w : World} {A : Option Addr} {n c : Nat} {l : List UInt8} (s : Nat) (h : Bt w A n c l) (hn : n ≤ 1000000) (hs : s ≤ 2305843009213693949) :
    Calls Try.prog 15 #[.int .u64 s, .slice A n c] w fun e w' => (∃ r x : Nat, e = .returned (.agg #[.int .u64 (r : Int), .int .u64 (x : Int)]) ∧ By s (Sg.msg l) r x) ∧ Below w.heap.size w w' :=
  (r8sign_any h hn s (by omega)).mono fun _ _ ⟨h, hb⟩ => ⟨⟨_, _, h, rfl, rfl, Sg.R_lt _ _, Sg.S_lt _ _⟩, hb⟩
theorem check_v {w : World} {A : Option Addr} {n c : Nat} {l : List UInt8} (t r s : Nat) (b : Bool) (h : Bt w A n c l) (hn : n ≤ 1000000) (ht : t < 18446744073709551616) (hr : r < 18446744073709551616) (hs : s < 18446744073709551616) (hb : Sg.chk t (Sg.msg l) r s = b) :
    Calls Try.prog 18 #[.int .u64 t, .slice A n c, .agg #[.int .u64 (r : Int), .int .u64 (s : Int)]] w fun e w' => e = .returned (.bool b) ∧ Below w.heap.size w w' :=
  (check_any h hn t r s ht hr hs).mono fun _ _ ⟨h, k⟩ => ⟨hb ▸ h, k⟩
theorem rcheck_v {w : World} {A : Option Addr} {n c : Nat} {l : List UInt8} (t r s : Nat) (b : Bool) (h : Bt w A n c l) (hn : n ≤ 1000000) (hb : Sg.chk t (Sg.msg l) r s = b) :
    Calls Try.prog 19 #[.int .u64 t, .slice A n c, .agg #[.int .u64 (r : Int), .int .u64 (s : Int)]] w fun e w' => e = .returned (.bool b) ∧ Below w.heap.size w w' :=
  (r8check_any h hn t r s).mono fun _ _ ⟨h, k⟩ => ⟨hb ▸ h, k⟩
theorem By.chk {s m r x : Nat} (h : By s m r x) : Sg.chk (Bx.pub s) m r x = true := by rw [h.1, h.2.1]; exact Sg.chk_sign s m
theorem around_v (z : Int) (k : Nat) (w : World) (h1 : -9223372036854775808 ≤ z) (h2 : z ≤ 9223372036854775807) (hk : 0 < k) (hk2 : k ≤ 1000000) :
    Calls Try.prog 17 #[.int .i64 z, .int .i64 (k : Int)] w fun e w' => (∃ r : Nat, r < k ∧ e = .returned (.int .i64 (r : Int))) ∧ Below w.heap.size w w' :=
  (around_any z k w h1 h2 hk hk2).mono fun _ _ ⟨r, hr, h, e⟩ => ⟨⟨r, hr, h⟩, e ▸ Below.refl _ _⟩

set_option maxRecDepth 100000 in
set_option maxHeartbeats 2000000 in
theorem lives8_any (w : World) : Calls Try.prog 16 #[] w fun e w' => e = .returned (.bool true) ∧ Below w.heap.size w w' := by
  have hpv : ∀ n : Nat, n < 18446744073709551616 → Bx.pub n = Fld.pw 64 37 n := fun n h => Fld.pow_pw 37 n h
  have h1 : Bx.pub 1 = 37 := by rw [hpv 1 (by omega)]; decide +kernel
  have h2 : Bx.pub 2 = 1369 := by rw [hpv 2 (by omega)]; decide +kernel
  have P1 : Hid (∀ W, Calls Try.prog 12 #[.int .u64 1] W fun e w' => e = .returned (.int .u64 37) ∧ Below W.heap.size W w') := Lib.hid fun W => by
    have h := spub_any 1 W (by omega)
    rw [h1] at h
    exact h
  have P2 : Hid (∀ W, Calls Try.prog 12 #[.int .u64 2] W fun e w' => e = .returned (.int .u64 1369) ∧ Below W.heap.size W w') := Lib.hid fun W => by
    have h := spub_any 2 W (by omega)
    rw [h2] at h
    exact h
  have C : Hid (∀ (W : World) (A : Option Addr) (r x : Nat), By 2 (Sg.msg [97]) r x → Bt W A 1 1 [97] → Calls Try.prog 18 #[.int .u64 1369, .slice A 1 1, .agg #[.int .u64 (r : Int), .int .u64 (x : Int)]] W fun e w' => e = .returned (.bool true) ∧ Below W.heap.size W w') := Lib.hid fun W A r x h hB => by
    have hk := h.chk
    rw [h2] at hk
    have hr := h.2.2.1
    have hx := h.2.2.2
    exact check_v 1369 r x true hB (by omega) (by omega) (by omega) (by omega) hk
  have hcs2 := conv_lit2
  have hcs := conv_lit
  clear h1 h2 hpv
  go_enter Try.func16, Try.ntmps16
  go_wp2_with fail
  refine (P1.out _).mono ?_
  rintro e w1 ⟨rfl, hb1⟩
  go_wp2_with fail
  refine (P2.out _).mono ?_
  rintro e w2 ⟨rfl, hb2⟩
  have k2 := kept_trans hb1 hb2
  clear hb1 hb2
  go_wp2_with fail
  have ha : Bt ((w2.alloc (.cells #[.int .u8 97] 5 (1, 2))).alloc (.cells #[.int .u8 97] 5 (1, 2))) (some ⟨w2.heap.size, 0, none⟩) 1 1 [97] := (Bt.lit w2 97 97 (1, 2) rfl).new _
  have hb : Bt ((w2.alloc (.cells #[.int .u8 97] 5 (1, 2))).alloc (.cells #[.int .u8 97] 5 (1, 2))) (some ⟨w2.heap.size + 1, 0, none⟩) 1 1 [97] := by have := Bt.lit (w2.alloc (.cells #[.int .u8 97] 5 (1, 2))) 97 97 (1, 2) rfl; rw [World.size_alloc] at this; exact this
  refine (sign_v 2 hb (by omega) (by omega)).mono ?_
  rintro e w3 ⟨⟨r, x, rfl, h⟩, hb3⟩
  have k3 := kept_trans k2 (Bx.below_new (Bx.below_new hb3))
  have A3 := Lib.hid (ha.below hb3)
  have H3 := Lib.hid h
  clear hb3 k2 h ha hb
  go_wp2_with fail
  refine (C.out _ _ _ _ H3.out A3.out).mono ?_
  rintro e w4 ⟨rfl, hb4⟩
  have k4 := kept_trans k3 hb4
  go_wp2
  go_ret
  exact ⟨rfl, k4⟩

end Go.Proofs.Ytdiacpadbndncaa
