/-
  Package hash's words, of a string and of bytes: an iterator that hands out the sevens of bytes as numbers, for every loop body that keeps what lay ahead of it.
-/
import Derived.Test.YtdiacpadbndncaaWord
import Derived.Test.YtdiacpadbndncaaOpsB
import Derived.RangeFuncNested
import Derived.RangeFuncBound
import Derived.RangeFuncCalls
import Derived.RangeFuncLeaves
import Derived.Shelf.Abstract
import Derived.Shelf.RegionOpen
import Derived.OwnWalkIn
import Derived.TacticsInMore
import Derived.LoopNIn
import Derived.LoopIn
namespace Go.Proofs.Ytdiacpadbndncaa
open Go.RowKit Go.Shelf
attribute [local go_sem] Oper.semAt_some

/-- A number of 64 bits. -/
def Wd : Type := { n : Nat // n < 18446744073709551616 }
def Wd.val (x : Wd) : Nat := Subtype.val x
theorem Wd.lt (x : Wd) : x.val < 18446744073709551616 := Subtype.property x
def Wd.enc (x : Wd) : Array Value := #[Value.int .u64 (x.val : Int)]
namespace Hsh
def wordW (l : List UInt8) (k : Nat) : Wd := ⟨word l k, Nat.lt_trans (word_lt l k) (by omega)⟩
theorem wordW_val (l : List UInt8) (k : Nat) : (wordW l k).val = word l k := rfl
def uptoW (l : List UInt8) (k : Nat) : List Wd := (List.range k).map (wordW l)
theorem uptoW_succ (l : List UInt8) (k : Nat) : uptoW l (k + 1) = uptoW l k ++ [wordW l k] := by simp [uptoW, List.range_succ]
theorem uptoW_val (l : List UInt8) (k : Nat) : (uptoW l k).map Wd.val = upto l k := by
  simp only [uptoW, upto, List.map_map]
  rfl
theorem uptoW_len (l : List UInt8) (k : Nat) : (uptoW l k).length = k := by simp [uptoW]
end Hsh

theorem extract_list (s : ByteArray) (a b : Nat) : (s.extract a b).data.toList = (s.data.toList.drop a).take (b - a) := by
  rw [ByteArray.data_extract, Array.toList_extract, List.extract_eq_take_drop]

theorem word_extract (s : ByteArray) (k b : Nat) (hb : b = min (7 * k + 7) s.size) : Hsh.le (s.extract (7 * k) b).data.toList = Hsh.word s.data.toList k := by
  rw [extract_list]
  unfold Hsh.word Hsh.chunk
  have hl : s.data.toList.length = s.size := rfl
  congr 1
  rcases Nat.le_total (7 * k + 7) s.size with h | h
  · rw [show b - 7 * k = 7 by omega]
  · rw [List.take_of_length_le (by rw [List.length_drop, hl]; omega), List.take_of_length_le (by rw [List.length_drop, hl]; omega)]

/-- Whatever lies below n, but for block g, lies as it lay. -/
def KeepsBut (g n : Nat) (W W' : World) : Prop := ∀ k, k < n → k ≠ g → W'.heap[k]? = W.heap[k]?
theorem KeepsBut.refl (g n : Nat) (W : World) : KeepsBut g n W W := fun _ _ _ => rfl
theorem KeepsBut.trans {g n : Nat} {A B C : World} (h : KeepsBut g n A B) (k : KeepsBut g n B C) : KeepsBut g n A C := fun i hi hg => (k i hi hg).trans (h i hi hg)
theorem KeepsBut.cell {g n : Nat} {W W' : World} (h : KeepsBut g n W W') {p : Addr} (hp : p.block < n) (hg : p.block ≠ g) : W'.cell? p = W.cell? p := World.cell?_of_block (h _ hp hg)
theorem KeepsBut.of_below {g n : Nat} {W W' : World} (h : Below n W W') : KeepsBut g n W W' := fun k hk _ => h.block k hk
theorem KeepsBut.of_grown {g n : Nat} {W W' : World} (h : W.grownBy W' (some g)) (hn : n ≤ W.heap.size) : KeepsBut g n W W' := fun k hk hg => h.block k (by omega) (fun e => hg (by injection e))
theorem KeepsBut.more {g n n' : Nat} {W W' : World} (h : KeepsBut g n W W') (hn : n' ≤ n) : KeepsBut g n' W W' := fun k hk hg => h k (by omega) hg
theorem keepsBut_b {g n : Nat} {w : World} (hn : n ≤ w.heap.size) (W : World) (l : Nat) (o o' : Obj) (hl : w.heap.size ≤ l) (_ : W.heap[l]? = some o) (_ : o.isCells = false) (_ : o.isWalk = false) : KeepsBut g n W (W.putObj l o') :=
  fun _ hk _ => World.putObj_heap_other (by omega)
theorem Rd.keeps {g n n1 : Nat} {w w' : World} {A : Option Addr} {vs : List Value} (h : Rd n1 w A vs) (hk : KeepsBut g n w w') (hn : n1 ≤ n) (hg : n1 ≤ g) : Rd n1 w' A vs := fun hp => by
  obtain ⟨b, off, e, hlt, hc⟩ := h hp
  exact ⟨b, off, e, hlt, fun i u hu => (hk.cell (p := ⟨b, off + i, none⟩) (by show b < n; omega) (by show b ≠ g; omega)).trans (hc i u hu)⟩

theorem slice_string (s : ByteArray) (a b : Nat) (j : Int) (h1 : a ≤ b) (h2 : b ≤ s.size) (hj : j = (b : Int)) (W : World) :
    (Instr.slice 9 (.string s) (some (.int .i64 (a : Int))) (some (.int .i64 j)) none).run Try.prog W = .ok (.string (s.extract a b)) W := by
  have h := run_slice_string (P := Try.prog) W 9 s .i64 .i64 (a : Int) j Try.underlying9 (by omega) (by omega) (by omega)
  rw [h, hj]
  rfl

theorem words_string_in (F : Fence) (n : Nat) (hF : F.fn 50) (hro : F.round = none) (s : ByteArray) (w : World) :
    CallsIn F n Try.prog 50 #[.string s] w fun e w' => e = .returned (.func (.func 58) #[] #[.pointer (some ⟨w.heap.size, 0, none⟩)]) ∧ w' = w.alloc (.cells #[.string s] 9) := by
  refine callsIn_of_wp Try.func50 rfl hF ?_ hro
  simp only [Try.ntmps50, List.size_toArray, List.length_cons, List.length_nil, Nat.reduceAdd, Nat.reduceSub, Array.replicate_succ, Array.replicate_zero, List.push_toArray, List.append_toArray, List.nil_append, List.cons_append]
  gi_wp2
  go_ret
  exact ⟨rfl, rfl⟩

set_option maxRecDepth 100000 in
set_option maxHeartbeats 1000000 in
theorem words1_string_in (F : Fence) (n : Nat) (hF : F.fn 58) (hwide : F = Fence.wide) (hro : F.round = none) (hn : 1 ≤ n) (l Bn g₀ n₀ : Nat) (s : ByteArray) (hs : s.size ≤ 9223372036854775800) (hBn : Bn < n₀) (hBg : Bn ≠ g₀) (J Jx : List Wd → World → Prop)
    (hY : ∀ pre x W, J pre W → pre.length < Hsh.sevens s.size → YieldAt F (n - 1) Try.prog l x.enc W fun e W' =>
      (e = .returned (.bool true) ∧ J (pre ++ [x]) W' ∧ KeepsBut g₀ n₀ W W') ∨ (e = .returned (.bool false) ∧ Jx (pre ++ [x]) W'))
    (W : World) (hc : W.cell? ⟨Bn, 0, none⟩ = some (.string s)) (h0 : J [] W) :
    CallsIn F n Try.prog 58 #[.func (.yield l) #[] #[], .pointer (some ⟨Bn, 0, none⟩)] W fun e W' => (∃ r, e = .returned r) ∧
      ((∃ ys, ys = Hsh.uptoW s.data.toList (Hsh.sevens s.size) ∧ J ys W') ∨ (∃ pre, True ∧ Jx pre W')) := by
  subst hwide
  refine callsIn_of_wp Try.func58 rfl hF ?_ hro
  simp only [Try.ntmps58, List.size_toArray, List.length_cons, List.length_nil, Nat.reduceAdd, Nat.reduceSub, Array.replicate_succ, Array.replicate_zero, List.push_toArray, List.append_toArray, List.nil_append, List.cons_append]
  gi_wp2
  gi_loopw [3] (fun p wr => ∃ (a k : Nat), p = .int .i64 a ∧ a = 7 * k ∧ k ≤ Hsh.sevens s.size ∧ wr.cell? ⟨Bn, 0, none⟩ = some (.string s) ∧ J (Hsh.uptoW s.data.toList k) wr)
    (fun p _ => s.size + 7 - (intOf p).toNat)
  case atStart =>
    exact ⟨0, 0, rfl, rfl, Nat.zero_le _, hc, h0⟩
  case round =>
    obtain ⟨a, k, rfl, ha, hk, hcr, hJs⟩ := hrel
    unfold Hsh.sevens at hk
    by_cases hlt : a < s.size
    · obtain ⟨b, hb⟩ : ∃ b : Nat, b = min (a + 7) s.size := ⟨_, rfl⟩
      have hword := word_extract s k b (by rw [hb, ha])
      rw [← ha] at hword
      have hsz : (s.extract a b).size ≤ 7 := by rw [ByteArray.size_extract]; omega
      have hmin : min ((a : Int) + 7) (s.size : Int) = (b : Int) := by omega
      have hab : a ≤ b := by omega
      have hbs : b ≤ s.size := by omega
      obtain ⟨fn, tmps, assign, body, hy, hR⟩ := hY _ (Hsh.wordW s.data.toList k) wr hJs (by rw [Hsh.uptoW_len]; unfold Hsh.sevens; omega)
      unfold Wd.enc at hy
      rw [Hsh.wordW_val, ← hword] at hy
      have hwd := fun W : World => word_string (s.extract a b) W hsz
      obtain ⟨x, hx⟩ : ∃ x : Nat, x = Hsh.le (s.extract a b).data.toList := ⟨_, rfl⟩
      rw [← hx] at hy hwd
      have HWD := Lib.hid hwd
      clear hwd hx
      rw [← Hsh.uptoW_succ] at hR
      have HA := Lib.hid ha
      have HW := Lib.hid hword
      have HB := Lib.hid hb
      clear ha hword hb
      clear hmin
      rcases Nat.lt_or_ge s.size (a + 7) with hmn | hmn
      · obtain rfl : b = s.size := by have := HB.out; omega
        have q2 : (s.size : Int) < (a : Int) + 7 := by omega
        have hsl := slice_string s a s.size ((s.size : Nat) : Int) (by omega) (Nat.le_refl _) rfl
        gi_wp2_with (refine ⟨trivial, ?_⟩; gi_at_call 59; refine (callsIn_wide.2 (HWD.out _)).mono ?_; rintro e w' ⟨rfl, rfl⟩)
        refine hR.mono ?_
        rintro e W3 (⟨rfl, hJ3, hk3⟩ | ⟨rfl, hJx3⟩)
        · gi_wp2
          go_roundw
          case rel => exact ⟨a + 7, k + 1, by go_num, by have := HA.out; omega, by unfold Hsh.sevens; have := HA.out; omega, (hk3.cell (p := ⟨Bn, 0, none⟩) hBn hBg).trans hcr, hJ3⟩
          case measure => simp [intOf]; omega
        · gi_wp2
          refine bodyPost_ret (results_none rfl _ _ _) rfl ?_
          exact ⟨⟨_, rfl⟩, .inr ⟨_, trivial, hJx3⟩⟩
      · obtain rfl : b = a + 7 := by have := HB.out; omega
        have q2 : (a : Int) + 7 ≤ (s.size : Int) := by omega
        have hsl := slice_string s a (a + 7) ((a : Int) + 7) (by omega) hmn (by omega)
        gi_wp2_with (refine ⟨trivial, ?_⟩; gi_at_call 59; refine (callsIn_wide.2 (HWD.out _)).mono ?_; rintro e w' ⟨rfl, rfl⟩)
        refine hR.mono ?_
        rintro e W3 (⟨rfl, hJ3, hk3⟩ | ⟨rfl, hJx3⟩)
        · gi_wp2
          go_roundw
          case rel => exact ⟨a + 7, k + 1, by go_num, by have := HA.out; omega, by unfold Hsh.sevens; have := HA.out; omega, (hk3.cell (p := ⟨Bn, 0, none⟩) hBn hBg).trans hcr, hJ3⟩
          case measure => simp [intOf]; omega
        · gi_wp2
          refine bodyPost_ret (results_none rfl _ _ _) rfl ?_
          exact ⟨⟨_, rfl⟩, .inr ⟨_, trivial, hJx3⟩⟩
    · have e : k = Hsh.sevens s.size := by unfold Hsh.sevens; omega
      have HA := Lib.hid ha
      clear ha
      gi_wp2
      go_end0
      exact ⟨⟨_, rfl⟩, .inl ⟨_, by rw [e], hJs⟩⟩

theorem word_take (xs : List UInt8) (k b : Nat) (hb : b = min (7 * k + 7) xs.length) : Hsh.le ((xs.drop (7 * k)).take (b - 7 * k)) = Hsh.word xs k := by
  unfold Hsh.word Hsh.chunk
  congr 1
  rcases Nat.le_total (7 * k + 7) xs.length with h | h
  · rw [show b - 7 * k = 7 by omega]
  · rw [List.take_of_length_le (by rw [List.length_drop]; omega), List.take_of_length_le (by rw [List.length_drop]; omega)]
theorem u8s_part {w : World} {g off : Nat} (xs : List UInt8) (h : ∀ i u, (u8s xs)[i]? = some u → w.cell? ⟨g, off + i, none⟩ = some u) (a b : Nat) :
    ∀ i u, (u8s ((xs.drop a).take (b - a)))[i]? = some u → w.cell? ⟨g, off + a + i, none⟩ = some u := by
  intro i u hu
  rw [Nat.add_assoc]
  refine h (a + i) u ?_
  unfold u8s at hu ⊢
  rw [List.getElem?_map, List.getElem?_take, List.getElem?_drop] at hu
  rw [List.getElem?_map]
  split at hu
  · exact hu
  · simp at hu
theorem slice_bytes (g off m c a b : Nat) (j : Int) (h1 : a ≤ b) (h2 : a < m) (h3 : b ≤ c) (hj : j = (b : Int)) (h4 : m ≤ c) (q : Nat) (hq : q = b - a) (W : World) :
    (Instr.slice 23 (.slice (some ⟨g, off, none⟩) m c) (some (.int .i64 (a : Int))) (some (.int .i64 j)) none).run Try.prog W = .ok (.slice (some ⟨g, off + a, none⟩) q (c - a)) W := by
  have hz : (sizeOf (Try.prog.elem 23)).run Try.prog W = .ok 1 W := by kernel_rfl
  have h := run_slice_lh (P := Try.prog) W 23 (some ⟨g, off, none⟩) m c (by kernel_rfl) .i64 .i64 (a : Int) j (by omega) (by omega) (by omega)
  rw [h, hz, hj, hq]
  simp only [Result.andThen, sliced, Int.toNat_natCast]
  rw [if_neg (by omega)]
  simp
  exact Addr.add_lit _ _ _

theorem words_bytes_in (F : Fence) (n : Nat) (hF : F.fn 49) (hro : F.round = none) (A : Option Addr) (m c : Nat) (w : World) :
    CallsIn F n Try.prog 49 #[.slice A m c] w fun e w' => e = .returned (.func (.func 56) #[] #[.pointer (some ⟨w.heap.size, 0, none⟩)]) ∧ w' = w.alloc (.cells #[.slice A m c] 23) := by
  refine callsIn_of_wp Try.func49 rfl hF ?_ hro
  simp only [Try.ntmps49, List.size_toArray, List.length_cons, List.length_nil, Nat.reduceAdd, Nat.reduceSub, Array.replicate_succ, Array.replicate_zero, List.push_toArray, List.append_toArray, List.nil_append, List.cons_append]
  gi_wp2
  go_ret
  exact ⟨rfl, rfl⟩

set_option maxRecDepth 100000 in
set_option maxHeartbeats 1000000 in
theorem words1_bytes_in (F : Fence) (n : Nat) (hF : F.fn 56) (hwide : F = Fence.wide) (hro : F.round = none) (hn : 1 ≤ n) (l Bn g₀ n₀ n₁ : Nat) (xs : List UInt8) (A : Option Addr) (m c : Nat) (hm : m = xs.length) (hmc : m ≤ c) (hs : m ≤ 9223372036854775800) (hBn : Bn < n₀) (hBg : Bn ≠ g₀) (hn1 : n₁ ≤ n₀) (hg1 : n₁ ≤ g₀) (J Jx : List Wd → World → Prop)
    (hY : ∀ pre x W, J pre W → pre.length < Hsh.sevens m → YieldAt F (n - 1) Try.prog l x.enc W fun e W' =>
      (e = .returned (.bool true) ∧ J (pre ++ [x]) W' ∧ KeepsBut g₀ n₀ W W') ∨ (e = .returned (.bool false) ∧ Jx (pre ++ [x]) W'))
    (W : World) (hc : W.cell? ⟨Bn, 0, none⟩ = some (.slice A m c)) (hA : Rd n₁ W A (u8s xs)) (h0 : J [] W) :
    CallsIn F n Try.prog 56 #[.func (.yield l) #[] #[], .pointer (some ⟨Bn, 0, none⟩)] W fun e W' => (∃ r, e = .returned r) ∧
      ((∃ ys, ys = Hsh.uptoW xs (Hsh.sevens m) ∧ J ys W') ∨ (∃ pre, True ∧ Jx pre W')) := by
  subst hwide
  have HM := Lib.hid hm
  clear hm
  refine callsIn_of_wp Try.func56 rfl hF ?_ hro
  simp only [Try.ntmps56, List.size_toArray, List.length_cons, List.length_nil, Nat.reduceAdd, Nat.reduceSub, Array.replicate_succ, Array.replicate_zero, List.push_toArray, List.append_toArray, List.nil_append, List.cons_append]
  gi_wp2
  gi_loopw [3] (fun p wr => ∃ (a k : Nat), p = .int .i64 a ∧ a = 7 * k ∧ k ≤ Hsh.sevens m ∧ wr.cell? ⟨Bn, 0, none⟩ = some (.slice A m c) ∧ Rd n₁ wr A (u8s xs) ∧ J (Hsh.uptoW xs k) wr)
    (fun p _ => m + 7 - (intOf p).toNat)
  case atStart =>
    exact ⟨0, 0, rfl, rfl, Nat.zero_le _, hc, hA, h0⟩
  case round =>
    obtain ⟨a, k, rfl, ha, hk, hcr, hRd, hJs⟩ := hrel
    unfold Hsh.sevens at hk
    by_cases hlt : a < m
    · obtain ⟨b, hb⟩ : ∃ b : Nat, b = min (a + 7) m := ⟨_, rfl⟩
      have hml := HM.out
      obtain ⟨g, off, rfl, hg, hcl⟩ := hRd (by rw [u8s_len]; omega)
      have hword := word_take xs k b (by rw [hb, ha, hml])
      rw [← ha] at hword
      have hmin : min ((a : Int) + 7) (m : Int) = (b : Int) := by omega
      have hab : a ≤ b := by omega
      have hbs : b ≤ m := by omega
      obtain ⟨fn, tmps, assign, body, hy, hR⟩ := hY _ (Hsh.wordW xs k) wr hJs (by rw [Hsh.uptoW_len]; unfold Hsh.sevens; omega)
      unfold Wd.enc at hy
      rw [Hsh.wordW_val, ← hword] at hy
      obtain ⟨q, hq⟩ : ∃ q : Nat, q = b - a := ⟨_, rfl⟩
      have hwd := word_bytes ((xs.drop a).take (b - a)) g (off + a) (b - a) (c - a) wr (by rw [List.length_take, List.length_drop]; omega) (by omega) (u8s_part _ hcl a b)
      obtain ⟨x, hx⟩ : ∃ x : Nat, x = Hsh.le ((xs.drop a).take (b - a)) := ⟨_, rfl⟩
      rw [← hx] at hy hwd
      rw [← hq] at hwd
      have HQ := Lib.hid hq
      clear hq
      clear hml
      have HCL := Lib.hid hcl
      clear hcl
      have HWD := Lib.hid hwd
      clear hwd hx
      rw [← Hsh.uptoW_succ] at hR
      have HA := Lib.hid ha
      have HW := Lib.hid hword
      have HB := Lib.hid hb
      clear ha hword hb
      clear hmin
      rcases Nat.lt_or_ge m (a + 7) with hmn | hmn
      · obtain rfl : m = b := by have := HB.out; omega
        have q2 : (m : Int) < (a : Int) + 7 := by omega
        have hsl := slice_bytes g off m c a m ((m : Nat) : Int) (by omega) hlt hmc rfl hmc q HQ.out
        gi_wp2_with (refine ⟨trivial, ?_⟩; gi_at_call 57; refine (callsIn_wide.2 HWD.out).mono ?_; rintro e w' ⟨rfl, rfl⟩)
        refine hR.mono ?_
        rintro e W3 (⟨rfl, hJ3, hk3⟩ | ⟨rfl, hJx3⟩)
        · gi_wp2
          go_roundw
          case rel => exact ⟨a + 7, k + 1, by go_num, by have := HA.out; omega, by unfold Hsh.sevens; have := HA.out; omega, (hk3.cell (p := ⟨Bn, 0, none⟩) hBn hBg).trans hcr, fun _ => ⟨g, off, rfl, hg, fun i u hu => (hk3.cell (p := ⟨g, off + i, none⟩) (by show g < n₀; omega) (by show g ≠ g₀; omega)).trans (HCL.out i u hu)⟩, hJ3⟩
          case measure => simp [intOf]; omega
        · gi_wp2
          refine bodyPost_ret (results_none rfl _ _ _) rfl ?_
          exact ⟨⟨_, rfl⟩, .inr ⟨_, trivial, hJx3⟩⟩
      · obtain rfl : b = a + 7 := by have := HB.out; omega
        have q2 : (a : Int) + 7 ≤ (m : Int) := by omega
        have hsl := slice_bytes g off m c a (a + 7) ((a : Int) + 7) (by omega) (by omega) (by omega) (by omega) hmc q HQ.out
        gi_wp2_with (refine ⟨trivial, ?_⟩; gi_at_call 57; refine (callsIn_wide.2 HWD.out).mono ?_; rintro e w' ⟨rfl, rfl⟩)
        refine hR.mono ?_
        rintro e W3 (⟨rfl, hJ3, hk3⟩ | ⟨rfl, hJx3⟩)
        · gi_wp2
          go_roundw
          case rel => exact ⟨a + 7, k + 1, by go_num, by have := HA.out; omega, by unfold Hsh.sevens; have := HA.out; omega, (hk3.cell (p := ⟨Bn, 0, none⟩) hBn hBg).trans hcr, fun _ => ⟨g, off, rfl, hg, fun i u hu => (hk3.cell (p := ⟨g, off + i, none⟩) (by show g < n₀; omega) (by show g ≠ g₀; omega)).trans (HCL.out i u hu)⟩, hJ3⟩
          case measure => simp [intOf]; omega
        · gi_wp2
          refine bodyPost_ret (results_none rfl _ _ _) rfl ?_
          exact ⟨⟨_, rfl⟩, .inr ⟨_, trivial, hJx3⟩⟩
    · have e : k = Hsh.sevens m := by unfold Hsh.sevens; omega
      have HA := Lib.hid ha
      clear ha
      gi_wp2
      go_end0
      exact ⟨⟨_, rfl⟩, .inl ⟨_, by rw [e], hJs⟩⟩

theorem words_string_stops (n : Nat) (hn : 1 ≤ n) (Bn g₀ n₀ : Nat) (s : ByteArray) (hs : s.size ≤ 9223372036854775800) (w : World) (hBn : Bn < n₀) (hBg : Bn ≠ g₀) (hBw : Bn < w.heap.size)
    (hc : w.cell? ⟨Bn, 0, none⟩ = some (.string s)) :
    SeqStopsK Fence.wide n Try.prog 58 #[.pointer (some ⟨Bn, 0, none⟩)] Wd.enc (KeepsBut g₀ n₀) (fun ys => ys = Hsh.uptoW s.data.toList (Hsh.sevens s.size)) (fun _ => True) (Hsh.sevens s.size) w := fun l J Jx W hW _ _ hY h0 =>
  words1_string_in Fence.wide n trivial rfl rfl hn l Bn g₀ n₀ s hs hBn hBg J Jx hY W ((hW.cell (p := ⟨Bn, 0, none⟩) hBw).trans hc) h0

theorem words_bytes_stops (n : Nat) (hn : 1 ≤ n) (Bn g₀ n₀ n₁ : Nat) (xs : List UInt8) (A : Option Addr) (m c : Nat) (hm : m = xs.length) (hmc : m ≤ c) (hs : m ≤ 9223372036854775800) (w : World) (hBn : Bn < n₀) (hBg : Bn ≠ g₀) (hn1 : n₁ ≤ n₀) (hg1 : n₁ ≤ g₀) (hBw : Bn < w.heap.size) (hn0 : n₁ ≤ w.heap.size)
    (hc : w.cell? ⟨Bn, 0, none⟩ = some (.slice A m c)) (hA : Rd n₁ w A (u8s xs)) :
    SeqStopsK Fence.wide n Try.prog 56 #[.pointer (some ⟨Bn, 0, none⟩)] Wd.enc (KeepsBut g₀ n₀) (fun ys => ys = Hsh.uptoW xs (Hsh.sevens m)) (fun _ => True) (Hsh.sevens m) w := fun l J Jx W hW _ _ hY h0 =>
  words1_bytes_in Fence.wide n trivial rfl rfl hn l Bn g₀ n₀ n₁ xs A m c hm hmc hs hBn hBg hn1 hg1 J Jx hY W ((hW.cell (p := ⟨Bn, 0, none⟩) hBw).trans hc) (hA.below (hW.mono hn0)) h0

end Go.Proofs.Ytdiacpadbndncaa
