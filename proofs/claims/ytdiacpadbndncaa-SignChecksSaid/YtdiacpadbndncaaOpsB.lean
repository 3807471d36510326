/-
  Package field's Pow, a range over a function of the exponent's bits, answers the power modulo 2^61 - 1, and leaves the memory that was there as it was: for all numbers of 64 bits, no other condition.
-/
import Derived.Test.YtdiacpadbndncaaOpsA
import Derived.RangeFuncNested
import Derived.RangeFuncBound
import Derived.RangeFuncCalls
import Derived.RangeFuncLeaves
import Derived.Shelf.Abstract
import Derived.Shelf.RegionOpen
import Derived.WalkKit
import Derived.OwnWalkIn
import Derived.TacticsInMore
import Derived.LoopNIn
import Derived.LoopIn
namespace Go.Proofs.Ytdiacpadbndncaa
open Go.RowKit Go.Shelf
attribute [local go_sem] Oper.semAt_some

namespace Fld
/-- The bits of a number, the least first, up to the last that is 1 (the first number: as many rounds as there may be). -/
def bitsIn : Nat → Nat → List Bool
  | 0, _ => []
  | f + 1, n => if n = 0 then [] else decide (n % 2 = 1) :: bitsIn f (n / 2)
def bits (n : Nat) : List Bool := bitsIn n n
theorem bitsIn_any : ∀ (f g n : Nat), n ≤ f → n ≤ g → bitsIn f n = bitsIn g n
  | 0, 0, _, _, _ => rfl
  | 0, g + 1, n, h, _ => by
    obtain rfl : n = 0 := by omega
    simp [bitsIn]
  | f + 1, 0, n, _, h => by
    obtain rfl : n = 0 := by omega
    simp [bitsIn]
  | f + 1, g + 1, n, h, k => by
    by_cases h0 : n = 0
    · simp [bitsIn, h0]
    · simp only [bitsIn, h0, if_false]
      rw [bitsIn_any f g (n / 2) (by omega) (by omega)]
theorem bits_zero : bits 0 = [] := rfl
theorem bits_pos (n : Nat) (h : n ≠ 0) : bits n = decide (n % 2 = 1) :: bits (n / 2) := by
  obtain ⟨m, rfl⟩ := Nat.exists_eq_succ_of_ne_zero h
  show (if m.succ = 0 then [] else decide (m.succ % 2 = 1) :: bitsIn m (m.succ / 2)) = _
  rw [if_neg h, bitsIn_any m (m.succ / 2) _ (by omega) (Nat.le_refl _)]
  rfl

/-- One round: power and square. -/
def step (s : Nat × Nat) (x : Bool) : Nat × Nat := (if x then mul s.1 s.2 else s.1, mul s.2 s.2)
def run (a : Nat) (pre : List Bool) : Nat × Nat := pre.foldl step (1, num a)
theorem run_snoc (a : Nat) (pre : List Bool) (x : Bool) : run a (pre ++ [x]) = step (run a pre) x := by simp [run]

theorem half_pow (b k : Nat) : mul b b ^ (k / 2) % P = b ^ (k / 2 * 2) % P := by
  show (b * b % P) ^ (k / 2) % P = _
  rw [← Nat.pow_mod, Nat.mul_comm (k / 2) 2, Nat.pow_mul, Nat.pow_two]

theorem step_even (o b k : Nat) (h : k % 2 = 0) : o * mul b b ^ (k / 2) % P = o * b ^ k % P := by
  rw [Nat.mul_mod, half_pow, ← Nat.mul_mod, show k / 2 * 2 = k by omega]
theorem step_odd (o b k : Nat) (h : k % 2 = 1) : mul o b * mul b b ^ (k / 2) % P = o * b ^ k % P := by
  rw [Nat.mul_mod, half_pow, ← Nat.mul_mod]
  show o * b % P * b ^ (k / 2 * 2) % P = _
  rw [Nat.mul_mod, Nat.mod_mod, ← Nat.mul_mod, Nat.mul_assoc, show k = k / 2 * 2 + 1 by omega, Nat.pow_succ, Nat.mul_comm b]
  rw [show (k / 2 * 2 + 1) / 2 = k / 2 by omega]

theorem fold_bits : ∀ (f k : Nat) (o b : Nat), k < f → ((bits k).foldl step (o, b)).1 % P = o * b ^ k % P
  | 0, k, _, _, h => absurd h (Nat.not_lt_zero k)
  | f + 1, k, o, b, h => by
    by_cases h0 : k = 0
    · subst h0; rw [bits_zero]; simp
    · rw [bits_pos k h0, List.foldl_cons]
      by_cases h1 : k % 2 = 1
      · simp only [step, h1, decide_true, if_true]
        rw [fold_bits f (k / 2) _ _ (by omega)]
        exact step_odd o b k h1
      · have h2 : k % 2 = 0 := by omega
        simp only [step, h2, show decide ((0 : Nat) = 1) = false from rfl, Bool.false_eq_true, if_false]
        rw [fold_bits f (k / 2) _ _ (by omega)]
        exact step_even o b k h2

theorem run_lt (a : Nat) (pre : List Bool) : (run a pre).1 < 2305843009213693951 ∧ (run a pre).2 < 2305843009213693951 := by
  have key : ∀ (l : List Bool) (s : Nat × Nat), s.1 < 2305843009213693951 ∧ s.2 < 2305843009213693951 → (l.foldl step s).1 < 2305843009213693951 ∧ (l.foldl step s).2 < 2305843009213693951 := by
    intro l
    induction l with
    | nil => intro s h; exact h
    | cons x l ih =>
      intro s h
      refine ih _ ⟨?_, mul_lt _ _⟩
      show (if x then mul s.1 s.2 else s.1) < _
      cases x
      · exact h.1
      · exact mul_lt _ _
  exact key pre _ ⟨show 1 < 2305843009213693951 by omega, num_lt _⟩

theorem run_bits (a n : Nat) : (run a (bits n)).1 = pow a n := by
  have h := fold_bits (n + 1) n 1 (num a) (Nat.lt_succ_self n)
  have hl := (run_lt a (bits n)).1
  have e : (run a (bits n)).1 % P = (run a (bits n)).1 := Nat.mod_eq_of_lt hl
  rw [← e]
  refine h.trans ?_
  show 1 * (a % P) ^ n % P = a ^ n % P
  rw [Nat.one_mul, ← Nat.pow_mod]

theorem bits_len : ∀ (f n : Nat), n < 2 ^ f → (bits n).length ≤ f
  | 0, n, h => by
    have : n = 0 := by simpa using h
    subst this; rw [bits_zero]; exact Nat.le_refl _
  | f + 1, n, h => by
    by_cases h0 : n = 0
    · subst h0; rw [bits_zero]; exact Nat.zero_le _
    · rw [bits_pos n h0, List.length_cons]
      have := bits_len f (n / 2) (by rw [Nat.pow_succ] at h; omega)
      omega
end Fld

theorem cell_of_box_l {W : World} {B : Nat} {v : Value} {t : TypeId} (h : W.heap[B]? = some (.cells #[v] t (0, 0))) : W.cell? ⟨B, 0, none⟩ = some v ∧ W.frozen? ⟨B, 0, none⟩ = false := by
  constructor <;> simp [World.cell?, World.frozen?, h]
theorem cell_new_l (W : World) (v : Value) (t : TypeId) : (W.alloc (.cells #[v] t)).cell? ⟨W.heap.size, 0, none⟩ = some v ∧ (W.alloc (.cells #[v] t)).frozen? ⟨W.heap.size, 0, none⟩ = false :=
  cell_of_box_l (World.alloc_heap_new W _)
theorem cell_alloc_l {W : World} {a : Addr} {v : Value} (o : Obj) (h : W.cell? a = some v) : (W.alloc o).cell? a = some v := cell_kept h (World.grownBy_alloc W o none) (fun r e => by cases e)
theorem frozen_alloc_l {W : World} {a : Addr} {v : Value} (o : Obj) (h : W.cell? a = some v) (hf : W.frozen? a = false) : (W.alloc o).frozen? a = false := (frozen_kept h (World.grownBy_alloc W o none) (fun r e => by cases e)).trans hf

theorem cell_other (W : World) {A B : Nat} (u : Value) (h : A ≠ B) : (W.setCell ⟨B, 0, none⟩ u).cell? ⟨A, 0, none⟩ = W.cell? ⟨A, 0, none⟩ :=
  World.cell?_of_block (Below.heap_setCell W ⟨B, 0, none⟩ u A h)

set_option maxHeartbeats 1000000 in
theorem bitsOf_in (F : Fence) (n : Nat) (hF : F.fn 37) (hro : F.round = none) (v : Nat) (w : World) :
    CallsIn F n Try.prog 37 #[.int .u64 v] w fun e w' => e = .returned (.func (.func 47) #[] #[.pointer (some ⟨w.heap.size, 0, none⟩)]) ∧ w' = w.alloc (.cells #[.int .u64 v] 22) := by
  refine callsIn_of_wp Try.func37 rfl hF ?_ hro
  simp only [Try.ntmps37, List.size_toArray, List.length_cons, List.length_nil, Nat.reduceAdd, Nat.reduceSub, Array.replicate_succ, Array.replicate_zero, List.push_toArray, List.append_toArray, List.nil_append, List.cons_append]
  gi_wp2
  go_ret
  exact ⟨rfl, rfl⟩

set_option maxRecDepth 100000 in
set_option maxHeartbeats 1000000 in
/-- The iterator over the bits of v: for every loop body that keeps what lay below n₀. -/
theorem bits1_in (F : Fence) (n : Nat) (hF : F.fn 47) (hro : F.round = none) (hn : 1 ≤ n) (l Bn n₀ : Nat) (v : Nat) (hv : v < 18446744073709551616) (J Jx : List Bool → World → Prop)
    (hY : ∀ pre x W, J pre W → pre.length < 64 → YieldAt F (n - 1) Try.prog l #[.bool x] W fun e W' =>
      (e = .returned (.bool true) ∧ J (pre ++ [x]) W' ∧ Below n₀ W W') ∨ (e = .returned (.bool false) ∧ Jx (pre ++ [x]) W'))
    (W : World) (hBn : W.cell? ⟨Bn, 0, none⟩ = some (.int .u64 v)) (h0 : J [] W) :
    CallsIn F n Try.prog 47 #[.func (.yield l) #[] #[], .pointer (some ⟨Bn, 0, none⟩)] W fun e W' => (∃ r, e = .returned r) ∧
      ((∃ ys, ys = Fld.bits v ∧ J ys W') ∨ (∃ pre, True ∧ Jx pre W')) := by
  refine callsIn_of_wp Try.func47 rfl hF ?_ hro
  simp only [Try.ntmps47, List.size_toArray, List.length_cons, List.length_nil, Nat.reduceAdd, Nat.reduceSub, Array.replicate_succ, Array.replicate_zero, List.push_toArray, List.append_toArray, List.nil_append, List.cons_append]
  gi_wp2
  gi_loopw [3] (fun p wr => ∃ (pre : List Bool) (k : Nat), p = .int .u64 k ∧ k < 18446744073709551616 ∧ Fld.bits v = pre ++ Fld.bits k ∧ J pre wr)
    (fun p _ => (intOf p).toNat)
  case atStart =>
    exact ⟨[], v, rfl, hv, rfl, h0⟩
  case round =>
    obtain ⟨pre, k, rfl, hk, hx, hJs⟩ := hrel
    by_cases hz : k = 0
    · subst hz
      rw [Fld.bits_zero, List.append_nil] at hx
      gi_wp2
      go_end0
      exact ⟨⟨_, rfl⟩, .inl ⟨pre, hx.symm, hJs⟩⟩
    · have hpos : 0 < k := Nat.pos_of_ne_zero hz
      have hlen : pre.length < 64 := by
        have h1 := Fld.bits_len 64 v (by omega)
        rw [hx, Fld.bits_pos k hz] at h1
        simp at h1
        omega
      have hbits := Fld.bits_pos k hz
      obtain ⟨x, hxd⟩ : ∃ x : Bool, x = decide (k % 2 = 1) := ⟨_, rfl⟩
      rw [← hxd] at hbits
      have hb : (Go.bits .and .u64 (k : Int) 1 == 1) = x := by
        have h1 := bits_and_u64_nat k 1 hk (by omega)
        rw [Nat.and_one_is_mod] at h1
        rw [hxd, Bool.eq_iff_iff, beq_iff_eq, decide_eq_true_iff]
        rw [show ((1 : Nat) : Int) = 1 from rfl] at h1
        rw [h1]
        omega
      have hdv : (k : Int) / 2 = ((k / 2 : Nat) : Int) := by omega
      obtain ⟨k2, hk2⟩ : ∃ k2 : Nat, k2 = k / 2 := ⟨_, rfl⟩
      rw [← hk2] at hdv hbits
      have hlt : k2 < k := by omega
      have HK := Lib.hid hk2
      have HB := Lib.hid hbits
      have HX := Lib.hid hx
      clear hxd hk2 hbits hx
      obtain ⟨fn, tmps, assign, body, hy, hR⟩ := hY pre x wr hJs hlen
      gi_wp2
      refine hR.mono ?_
      rintro e W3 (⟨rfl, hJ3, hk3⟩ | ⟨rfl, hJx3⟩)
      · gi_wp2
        go_roundw
        case rel => exact ⟨pre ++ [x], k2, rfl, by omega, by rw [HX.out, HB.out]; simp, hJ3⟩
        case measure => simp [intOf]; omega
      · gi_wp2
        refine bodyPost_ret (results_none rfl _ _ _) rfl ?_
        exact ⟨⟨_, rfl⟩, .inr ⟨pre ++ [x], trivial, hJx3⟩⟩

theorem bits_stops (F : Fence) (n : Nat) (hF : F.fn 47) (hro : F.round = none) (hn : 1 ≤ n) (Bn n₀ : Nat) (v : Nat) (hv : v < 18446744073709551616) (w : World) (hBn : Bn < w.heap.size)
    (hc : w.cell? ⟨Bn, 0, none⟩ = some (.int .u64 v)) :
    SeqStopsK F n Try.prog 47 #[.pointer (some ⟨Bn, 0, none⟩)] (fun x : Bool => #[Value.bool x]) (Below n₀) (fun ys => ys = Fld.bits v) (fun _ => True) 64 w := fun l J Jx W hW _ _ hY h0 =>
  bits1_in F n hF hro hn l Bn n₀ v hv J Jx hY W ((hW.cell (p := ⟨Bn, 0, none⟩) hBn).trans hc) h0

set_option maxRecDepth 100000 in
set_option maxHeartbeats 2000000 in
theorem pow_any (a v : Nat) (w : World) (ha : a < 18446744073709551616) (hv : v < 18446744073709551616) :
    Calls Try.prog 20 #[.int .u64 a, .int .u64 v] w fun e w' => e = .returned (.int .u64 (Fld.pow a v : Nat)) ∧ Below w.heap.size w w' := by
  refine (callsIn_wide (n := 3)).1 ?_
  refine callsIn_of_wp_marks Try.func20 rfl trivial ?_ rfl
  simp only [Try.ntmps20, List.size_toArray, List.length_cons, List.length_nil, Nat.reduceAdd, Nat.reduceSub, Array.replicate_succ, Array.replicate_zero, List.push_toArray, List.append_toArray, List.nil_append, List.cons_append]
  gi_wp2_with (first
    | (refine ⟨trivial, ?_⟩; gi_at_call 36; refine (callsIn_wide.2 (num_any a _ ha)).mono ?_; rintro e w' ⟨rfl, rfl⟩)
    | (refine ⟨trivial, ?_⟩; gi_at_call 37; refine (bitsOf_in Fence.wide (3 - 1) trivial rfl _ _).mono ?_; rintro e w' ⟨rfl, rfl⟩))
  have hp := cell_new_l w (.int .u64 1) 22
  have hs := cell_new_l (w.alloc (.cells #[.int .u64 1] 22)) (.int .u64 (Fld.num a : Nat)) 22
  have hb := cell_new_l ((w.alloc (.cells #[.int .u64 1] 22)).alloc (.cells #[.int .u64 (Fld.num a : Nat)] 22)) (.int .u64 v) 22
  simp only [World.size_alloc] at hs hb
  have hB0 : Below w.heap.size w (((w.alloc (.cells #[.int .u64 1] 22)).alloc (.cells #[.int .u64 (Fld.num a : Nat)] 22)).alloc (.cells #[.int .u64 v] 22)) :=
    (((Below.refl _ w).alloc (Nat.le_refl _) _).alloc (by simp) _).alloc (by simp; omega) _
  refine wpIn_rangeFunc_ownF rfl (by omega) (gf := 47) (lb := #[.pointer (some ⟨w.heap.size + 1 + 1, 0, none⟩)]) rfl trivial (enters_of Try.func47 (by kernel_rfl) rfl)
    (bits_stops Fence.wide (3 - 1) trivial rfl (by omega) (w.heap.size + 1 + 1) w.heap.size v hv _ (by simp) hb.1) belowK_t (belowK_b (by simp; omega)) (Below.refl _ _) (fun _ => rfl)
    (fun pre W => (W.cell? ⟨w.heap.size, 0, none⟩ = some (.int .u64 ((Fld.run a pre).1 : Nat)) ∧ W.frozen? ⟨w.heap.size, 0, none⟩ = false ∧
      W.cell? ⟨w.heap.size + 1, 0, none⟩ = some (.int .u64 ((Fld.run a pre).2 : Nat)) ∧ W.frozen? ⟨w.heap.size + 1, 0, none⟩ = false) ∧ Below w.heap.size w W)
    (fun _ _ _ => False)
    (OwnFrom.and (Own.from (fun s A B row hs hg hr => ⟨cell_kept hs.1 hg hr, (frozen_kept hs.1 hg hr).trans hs.2.1, cell_kept hs.2.2.1 hg hr, (frozen_kept hs.2.2.1 hg hr).trans hs.2.2.2⟩) _) (ownFrom_below (Nat.le_refl _) (by simp; omega)))
    (fun _ _ _ _ _ hs _ _ => hs)
    ⟨⟨cell_alloc_l _ (cell_alloc_l _ hp.1), frozen_alloc_l _ (cell_alloc_l _ hp.1) (frozen_alloc_l _ hp.1 hp.2), cell_alloc_l _ hs.1, frozen_alloc_l _ hs.1 hs.2⟩, hB0⟩
    (fun x => { tmps := #[.int .u64 a, .int .u64 v, undef, undef, .int .u64 0, .pointer (some ⟨w.heap.size, 0, none⟩), .pointer (some ⟨w.heap.size + 1, 0, none⟩), .bool x, .int .u64 a,
      .int .u64 (Fld.num a : Nat), .int .u64 v, .func (.func 47) #[] #[.pointer (some ⟨w.heap.size + 1 + 1, 0, none⟩)], .bool x, undef, undef, undef, undef, undef, undef, undef, undef], defers := [] }) ?assign ?body ?done ?stop
  case assign =>
    intro l x W K hK
    gi_wp2
    exact hK
  case body =>
    rintro l pre x W ⟨⟨hc1, hf1, hc2, hf2⟩, hB⟩ _
    have hn := Fld.run_lt a pre
    have hsn := Lib.hid (Fld.run_snoc a pre x)
    obtain ⟨o, ho⟩ : ∃ o, o = (Fld.run a pre).1 := ⟨_, rfl⟩
    obtain ⟨b, hb2⟩ : ∃ b, b = (Fld.run a pre).2 := ⟨_, rfl⟩
    rw [← ho] at hc1 hn
    rw [← hb2] at hc2 hn
    obtain ⟨hn1, hn2⟩ := hn
    have HO := Lib.hid ho
    have HB := Lib.hid hb2
    clear ho hb2
    cases x with
    | false =>
      gi_wp2_with (refine ⟨trivial, ?_⟩; gi_at_call 22; refine (CallsIn.inRound l (callsIn_wide.2 (mul_any _ _ _ (by omega) (by omega)))).mono ?_; rintro e w' ⟨rfl, rfl⟩)
      have hr : Fld.run a (pre ++ [false]) = (o, Fld.mul b b) := by rw [hsn.out, HO.out, HB.out]; rfl
      refine ⟨KeepsOthers.setCell _ _ _, (Below.refl w.heap.size W).setCell (p := ⟨w.heap.size + 1, 0, none⟩) (Nat.le_succ _) _, ?_, hB.setCell (p := ⟨w.heap.size + 1, 0, none⟩) (Nat.le_succ _) _⟩
      rw [hr]
      exact ⟨(cell_other _ _ (by omega)).trans hc1, by rw [World.frozen?_setCell]; exact hf1, World.cell?_setCell_same' _ _ _ (by rw [hc2]; rfl), by rw [World.frozen?_setCell]; exact hf2⟩
    | true =>
      gi_wp2_with (refine ⟨trivial, ?_⟩; gi_at_call 22; refine (CallsIn.inRound l (callsIn_wide.2 (mul_any _ _ _ (by omega) (by omega)))).mono ?_; rintro e w' ⟨rfl, rfl⟩)
      have hr : Fld.run a (pre ++ [true]) = (Fld.mul o b, Fld.mul b b) := by rw [hsn.out, HO.out, HB.out]; rfl
      have hc1' := World.cell?_setCell_same' W ⟨w.heap.size, 0, none⟩ (.int .u64 (Fld.mul o b : Nat)) (by rw [hc1]; rfl)
      have hc2' : (W.setCell ⟨w.heap.size, 0, none⟩ (.int .u64 (Fld.mul o b : Nat))).cell? ⟨w.heap.size + 1, 0, none⟩ = some (.int .u64 b) := (cell_other _ _ (by omega)).trans hc2
      refine ⟨(KeepsOthers.setCell _ _ _).trans (KeepsOthers.setCell _ _ _), ((Below.refl w.heap.size W).setCell (p := ⟨w.heap.size, 0, none⟩) (Nat.le_refl _) _).setCell (p := ⟨w.heap.size + 1, 0, none⟩) (Nat.le_succ _) _, ?_, (hB.setCell (p := ⟨w.heap.size, 0, none⟩) (Nat.le_refl _) _).setCell (p := ⟨w.heap.size + 1, 0, none⟩) (Nat.le_succ _) _⟩
      rw [hr]
      exact ⟨(cell_other _ _ (by omega)).trans hc1', by rw [World.frozen?_setCell, World.frozen?_setCell]; exact hf1, World.cell?_setCell_same' _ _ _ (by rw [hc2']; rfl), by rw [World.frozen?_setCell, World.frozen?_setCell]; exact hf2⟩
  case done =>
    rintro D ys W hD rfl ⟨⟨hc, _⟩, hB⟩ hK
    gi_wp2
    refine ⟨by simp, .inl ⟨_, _, rfl, run_takeDeferred hK, ?_⟩⟩
    exact ⟨_, results_tmp rfl _ _ _, by rw [Fld.run_bits]; rfl, hB.trans (belowK_b (w := w) (Nat.le_refl _) W D _ _ (by simp at hD; omega) hK rfl rfl)⟩
  case stop =>
    rintro D c pre W _ _ h _
    exact h.elim

end Go.Proofs.Ytdiacpadbndncaa
