/-
  The numbers of which the reference makes an operation: taken one by one; names, boxes, bytes of them. No condition.
-/
import Derived.Test.YtkicjjcangkneaaGreatDoorOto
import Derived.Test.YtkicjjcangkneaaGreatDoorOtl
import Derived.Test.YtkicjjcangkneaaGreatDoorJa
namespace Go.Proofs.YtkicjjcangkneaaGreatDoor
open Go.RowKit
attribute [local go_sem ↓] Go.wp_at_zero Go.wp_at_succ
set_option maxRecDepth 100000
namespace Ot
def aro (z : Int) (k : Nat) : Nat := if z < 0 then (-(z + 1)).toNat % k else z.toNat % k
theorem aro_lt (z : Int) {k : Nat} (h : 0 < k) : aro z k < k := by unfold aro; split <;> exact Nat.mod_lt _ h
theorem aro_any (z : Int) (k : Nat) (w : World) (hz : i64 z) (hk : 0 < k) (hk2 : k ≤ 2000000000) :
    Calls Tryz.prog 10 #[.int .i64 z, .int .i64 (k : Int)] w fun e w' => e = .returned (.int .i64 (aro z k : Nat)) ∧ w = w' := by
  unfold aro
  rcases Int.lt_or_le z 0 with h | h
  · rw [if_pos h]
    exact around_neg (-(z + 1)).toNat k z w (by omega) (by have := hz.1; omega) hk hk2
  · rw [if_neg (by omega)]
    obtain ⟨m, rfl⟩ := Int.eq_ofNat_of_zero_le h
    exact around_pos m k w (by have := hz.2; omega) hk hk2

/-! ### the first numbers -/
set_option maxHeartbeats 1000000 in
theorem ints_any {w : World} (x : Ls Int) (hx : Lz kInt No w x) (most : Nat) (hm : most ≤ 1000) (hb : x.l.length ≤ 9223372036854775807) :
    Calls Tryz.prog 32 #[x.v, .int .i64 (most : Int)] w fun e w' => ∃ y : Ls Int, e = .returned (.slice y.A y.l.length y.c) ∧ y.l = x.l.take most ∧ Gr kInt w.heap.size w' y ∧ Below w.heap.size w w' := by
  obtain ⟨l, A, c⟩ := x
  obtain ⟨n, hn⟩ : ∃ n, n = l.length := ⟨_, rfl⟩
  have hb : n ≤ 9223372036854775807 := by rw [hn]; exact hb
  obtain ⟨k, hk⟩ : ∃ k, k = min n most := ⟨_, rfl⟩
  have hif : (if most < n then (most : Int) else (n : Int)) = (k : Int) := by rw [hk]; split <;> omega
  have hkc : k ≤ c := by have : l.length ≤ c := hx.cap; omega
  have hsl := slice_head 22 (by kernel_rfl) (fun W => by kernel_rfl) A n c k hkc
  have htk : l.take most = l.take k := by
    rw [hk]
    rcases Nat.le_total n most with h | h
    · rw [List.take_of_length_le (by omega), List.take_of_length_le (by omega)]
    · rw [show min n most = most by omega]
  have hkl : (l.take k).length = k := by rw [List.length_take]; omega
  have ht := hx.take k
  show Calls _ _ #[.slice A l.length c, _] w _
  rw [← hn]
  have HT := Lib.hid ht
  have HTK := Lib.hid htk
  have HKL := Lib.hid hkl
  have HNL := Lib.hid (Gr.nil (K := kInt) w.heap.size w)
  have hkb : k ≤ 1000 := by omega
  clear hx hn hk htk ht hkl hkc
  go_enter Tryz.func32, Tryz.ntmps32
  go_wp2_with (at_builtin; refine wpList_push_ls ki_int rfl _ _ rfl w.heap.size Ls.nil ⟨l.take k, A, c⟩ HNL.out rfl HT.out (by show _ = Value.slice A (l.take k).length c; rw [HKL.out]; rfl) (by show 0 + (l.take k).length ≤ _; rw [HKL.out]; omega) (Nat.le_refl _) ?_; intro z w1 hz hgr hbel _; have HZ := Lib.hid hz; have HGR := Lib.hid hgr; have HB := Lib.hid hbel; clear hz hgr hbel)
  go_ret
  refine ⟨z, rfl, ?_, HGR.out, HB.out⟩
  show z.l = l.take most
  rw [HZ.out, HTK.out]
  rfl

/-! ### numbers taken -/
structure Tk (T : Nat) (w : World) (xs : List Int) (i : Nat) : Prop where
  at_ : ∃ A c, Blk w T 73 #[.slice A xs.length c, .int .i64 (i : Int)] ∧ Lz kInt (fun k => T ≤ k) w ⟨xs, A, c⟩
  few : xs.length ≤ 60
  ok : ∀ x ∈ xs, i64 x
def nx (xs : List Int) (i most : Nat) : Nat := aro (xs[i]?.getD 0) 1000000007 % most
theorem nx_lt (xs : List Int) (i : Nat) {most : Nat} (h : 0 < most) : nx xs i most < most := Nat.mod_lt _ h
theorem Tk.lt {T : Nat} {w : World} {xs : List Int} {i : Nat} (h : Tk T w xs i) : T < w.heap.size := by
  obtain ⟨A, c, h, _⟩ := h.at_
  exact h.lt
theorem Tk.bf {F : Nat → Prop} {T : Nat} {w w' : World} {xs : List Int} {i : Nat} (h : Tk T w xs i) (hb : Bf F w w') (hF : ∀ k, F k → T < k) : Tk T w' xs i := by
  obtain ⟨A, c, h1, h2⟩ := h.at_
  exact ⟨⟨A, c, hb.blk h1 fun hf => Nat.lt_irrefl _ (hF T hf), h2.step (hb.weak fun k _ hf => Nat.le_of_lt (hF k hf)) fun _ _ hk => hk⟩, h.few, h.ok⟩
theorem Tk.below {T : Nat} {w w' : World} {xs : List Int} {i : Nat} (h : Tk T w xs i) (hb : Below w.heap.size w w') : Tk T w' xs i := h.bf (F := No) (Bf.below hb) fun _ hf => hf.elim
theorem Tk.alloc {T : Nat} {w : World} {xs : List Int} {i : Nat} (h : Tk T w xs i) (o : Obj) : Tk T (w.alloc o) xs i := h.below ((Below.refl _ w).alloc (Nat.le_refl _) _)
/-- A number was taken, or more. -/
def Tn (T : Nat) (w w' : World) (xs : List Int) (i : Nat) : Prop := Tk T w' xs i ∧ w.grownBy w' (some T)

set_option maxHeartbeats 2000000 in
theorem next_any {T i : Nat} {w : World} {xs : List Int} (h : Tk T w xs i) (hi : i ≤ 1000) (most : Nat) (hm : 0 < most) (hm2 : most ≤ 1000000) :
    Calls Tryz.prog 33 #[.pointer (some ⟨T, 0, none⟩), .int .i64 (most : Int)] w fun e w' => e = .returned (.int .i64 (nx xs i most : Nat)) ∧ Tn T w w' xs (i + 1) := by
  obtain ⟨⟨A, c, hB, hA⟩, hf, hok⟩ := h
  obtain ⟨n, hn⟩ : ∃ n, n = xs.length := ⟨_, rfl⟩
  rw [← hn] at hB hf
  have c0 : w.cell? ⟨T, 0, none⟩ = some (.slice A n c) := hB.cell 0
  have c1 : w.cell? ⟨T, 1, none⟩ = some (.int .i64 (i : Int)) := hB.cell 1
  have f1 : w.frozen? ⟨T, 1, none⟩ = false := hB.frozen 1
  have hB1 := hB.set_ 1 (.int .i64 ((i : Int) + 1))
  have hg := only_set (only_refl w (some T)) 1 (.int .i64 ((i : Int) + 1))
  have hA1 : Lz kInt (fun k => T ≤ k) (w.setCell ⟨T, 1, none⟩ (.int .i64 ((i : Int) + 1))) ⟨xs, A, c⟩ := hA.bf (Bf.grown hg fun g eg => by injection eg with eg; exact Nat.le_of_eq eg)
  have HTN := Lib.hid (show ∀ j, Tn T w ((w.setCell ⟨T, 1, none⟩ (.int .i64 ((i : Int) + 1))).drewN j) xs (i + 1) from fun j => ⟨⟨⟨A, c, by rw [← hn]; exact hB1, hA1.bf ⟨rfl, rfl, rfl, Nat.le_refl _, fun _ _ _ => rfl⟩⟩, by rw [← hn]; exact hf, hok⟩, only_drewN hg j⟩)
  have g0 : (w.setCell ⟨T, 1, none⟩ (.int .i64 ((i : Int) + 1))).cell? ⟨T, 0, none⟩ = some (.slice A n c) := hB1.cell 0
  have g1 : (w.setCell ⟨T, 1, none⟩ (.int .i64 ((i : Int) + 1))).cell? ⟨T, 1, none⟩ = some (.int .i64 ((i : Int) + 1)) := hB1.cell 1
  obtain ⟨r, hr⟩ : ∃ r, r = nx xs i most := ⟨_, rfl⟩
  rw [← hr]
  have HR := Lib.hid hr
  by_cases hlt : i < n
  · obtain ⟨x, hx⟩ : ∃ x, xs[i]? = some x := ⟨_, List.getElem?_eq_getElem (by omega)⟩
    have hxo := hok x (List.mem_of_getElem? hx)
    obtain ⟨b, off, rfl, hbb, _, k0⟩ := hA1.int hx
    have q0 : ¬ (n : Int) < (i : Int) + 1 := by omega
    have q1 : (i : Int) + 1 - 1 = (i : Int) := by omega
    have q2 : (0 : Int) ≤ (i : Int) := by omega
    have hwi : IntKind.i64.wrap (i : Int) = (i : Int) := by rw [IntKind.wrap_i64]; omega
    have hti : ((i : Int)).toNat = i := Int.toNat_natCast i
    have q3 : (i : Int) < (n : Int) := by omega
    have hr2 : aro x 1000000007 % most = r := by rw [hr, nx, hx]; rfl
    obtain ⟨y, hy⟩ : ∃ y, y = aro x 1000000007 := ⟨_, rfl⟩
    have HA := Lib.hid (fun W => aro_any x 1000000007 W hxo (by omega) (by omega))
    rw [← hy] at HA hr2
    have hz : ((most : Int) == 0) = false := by rw [beq_eq_false_iff_ne]; omega
    have hre : (y : Int).tmod (most : Int) = (r : Int) := by rw [Int.tmod_eq_emod_of_nonneg (by omega), ← hr2, Int.natCast_emod]
    have hm0 : ¬ most = 0 := by omega
    clear hB hA hB1 hg hA1 hn hok hx hxo hr hy hr2
    go_enter Tryz.func33, Tryz.ntmps33
    go_wp2
    go_quiet (fail)
    go_wp2
    refine wp_region_held_drew (S := (fun w' : World => w'.cell? ⟨T, 0, none⟩ = some (.slice (some ⟨b, off, none⟩) n c) ∧ w'.cell? ⟨T, 1, none⟩ = some (.int .i64 ((i : Int) + 1)) ∧ w'.cell? ⟨b, off + i, none⟩ = some (.int .i64 x))) (by kernel_rfl) ⟨g0, g1, k0⟩ (fun hHeld => ?_)
    try simp only [Act.put, List.getElem_toArray, List.getElem_cons_succ, List.getElem_cons_zero, List.setIfInBounds_toArray, List.set_cons_zero, List.set_cons_succ]
    refine wpAnyH_take (i := 0) (v := ?_) rfl (by kernel_rfl) (by kernel_rfl) (by kernel_rfl) (fun _ _ _ h => h) (Or.inl ⟨by rfl, ?_⟩) (by assumption) ?_
    rotate_left
    · (intro w hSw; (try dsimp only at hSw); obtain ⟨t0, t1, t2⟩ := hSw; go_simp; try (with_reducible rfl))
    try simp only [Act.put, List.getElem_toArray, List.getElem_cons_zero, List.setIfInBounds_toArray, List.set_cons_zero, List.set_cons_succ]
    refine wpAnyH_take (i := 1) (v := ?_) rfl (by kernel_rfl) (by kernel_rfl) (by kernel_rfl) (fun _ _ _ h => h) (Or.inl ⟨by rfl, ?_⟩) (by assumption) ?_
    rotate_left
    · (intro w hSw; (try dsimp only at hSw); obtain ⟨t0, t1, t2⟩ := hSw; go_simp; try (with_reducible rfl))
    try simp only [Act.put, List.getElem_toArray, List.getElem_cons_succ, List.getElem_cons_zero, List.setIfInBounds_toArray, List.set_cons_zero, List.set_cons_succ]
    refine wpAnyH_take (i := 2) (v := ?_) rfl (by kernel_rfl) (by kernel_rfl) (by kernel_rfl) (fun _ _ _ h => h) (Or.inl ⟨by rfl, ?_⟩) (by assumption) ?_
    rotate_left
    · (intro w hSw; (try dsimp only at hSw); obtain ⟨t0, t1, t2⟩ := hSw; go_simp; try (with_reducible rfl))
    try simp only [Act.put, List.getElem_toArray, List.getElem_cons_succ, List.getElem_cons_zero, List.setIfInBounds_toArray, List.set_cons_zero, List.set_cons_succ]
    refine wpAnyH_take (i := 3) (v := ?_) rfl (by kernel_rfl) (by kernel_rfl) (by kernel_rfl) (fun _ _ _ h => h) (Or.inl ⟨by rfl, ?_⟩) (by assumption) ?_
    rotate_left
    · (intro w hSw; (try dsimp only at hSw); obtain ⟨t0, t1, t2⟩ := hSw; go_simp; try (with_reducible rfl))
    try simp only [Act.put, List.getElem_toArray, List.getElem_cons_succ, List.getElem_cons_zero, List.setIfInBounds_toArray, List.set_cons_zero, List.set_cons_succ]
    refine wpAnyH_take (i := 4) (v := ?_) rfl (by kernel_rfl) (by kernel_rfl) (by kernel_rfl) (fun _ _ _ h => h) (Or.inl ⟨by rfl, ?_⟩) (by assumption) ?_
    rotate_left
    · (intro w hSw; (try dsimp only at hSw); obtain ⟨t0, t1, t2⟩ := hSw; go_simp; try (with_reducible rfl))
    try simp only [Act.put, List.getElem_toArray, List.getElem_cons_succ, List.getElem_cons_zero, List.setIfInBounds_toArray, List.set_cons_zero, List.set_cons_succ]
    refine wpAnyH_take (i := 5) (v := ?_) rfl (by kernel_rfl) (by kernel_rfl) (by kernel_rfl) (fun _ _ _ h => h) (Or.inl ⟨by rfl, ?_⟩) (by assumption) ?_
    rotate_left
    · (intro w hSw; (try dsimp only at hSw); obtain ⟨t0, t1, t2⟩ := hSw; go_simp; try (with_reducible rfl))
    try simp only [Act.put, List.getElem_toArray, List.getElem_cons_succ, List.getElem_cons_zero, List.setIfInBounds_toArray, List.set_cons_zero, List.set_cons_succ]
    refine wpAnyH_take (i := 6) (v := ?_) rfl (by kernel_rfl) (by kernel_rfl) (by kernel_rfl) (fun _ _ _ h => h) (Or.inl ⟨by rfl, ?_⟩) (by assumption) ?_
    rotate_left
    · (intro w hSw; (try dsimp only at hSw); obtain ⟨t0, t1, t2⟩ := hSw; go_simp; try (with_reducible rfl))
    try simp only [Act.put, List.getElem_toArray, List.getElem_cons_succ, List.getElem_cons_zero, List.setIfInBounds_toArray, List.set_cons_zero, List.set_cons_succ]
    refine wpAnyH_take (i := 7) (v := ?_) rfl (by kernel_rfl) (by kernel_rfl) (by kernel_rfl) (fun _ _ _ h => h) (Or.inl ⟨by rfl, ?_⟩) (by assumption) ?_
    rotate_left
    · (intro w hSw; (try dsimp only at hSw); obtain ⟨t0, t1, t2⟩ := hSw; go_simp; try (with_reducible rfl))
    try simp only [Act.put, List.getElem_toArray, List.getElem_cons_succ, List.getElem_cons_zero, List.setIfInBounds_toArray, List.set_cons_zero, List.set_cons_succ]
    refine wpAnyH_take (i := 8) (v := ?_) rfl (by kernel_rfl) (by kernel_rfl) (by kernel_rfl) (fun _ _ _ h => h) (Or.inl ⟨by rfl, ?_⟩) (by assumption) ?_
    rotate_left
    · (intro w hSw; (try dsimp only at hSw); obtain ⟨t0, t1, t2⟩ := hSw; go_simp; try (with_reducible rfl))
    try simp only [Act.put, List.getElem_toArray, List.getElem_cons_succ, List.getElem_cons_zero, List.setIfInBounds_toArray, List.set_cons_zero, List.set_cons_succ]
    refine wpAnyH_take (i := 9) (v := ?_) rfl (by kernel_rfl) (by kernel_rfl) (by kernel_rfl) (fun _ _ _ h => h) (Or.inl ⟨by rfl, ?_⟩) (by assumption) ?_
    rotate_left
    · (intro w hSw; (try dsimp only at hSw); obtain ⟨t0, t1, t2⟩ := hSw; go_simp; try (with_reducible rfl))
    try simp only [Act.put, List.getElem_toArray, List.getElem_cons_succ, List.getElem_cons_zero, List.setIfInBounds_toArray, List.set_cons_zero, List.set_cons_succ]
    refine wpAnyH_take (i := 10) (v := ?_) rfl (by kernel_rfl) (by kernel_rfl) (by kernel_rfl) (fun _ _ _ h => h) (Or.inl ⟨by rfl, ?_⟩) (by assumption) ?_
    rotate_left
    · (intro w hSw; (try dsimp only at hSw); obtain ⟨t0, t1, t2⟩ := hSw; go_simp; try (with_reducible rfl))
    try simp only [Act.put, List.getElem_toArray, List.getElem_cons_succ, List.getElem_cons_zero, List.setIfInBounds_toArray, List.set_cons_zero, List.set_cons_succ]
    refine wpAnyH_take (i := 12) (v := ?_) rfl (by kernel_rfl) (by kernel_rfl) (by kernel_rfl) (fun _ _ _ h => h) (Or.inl ⟨by rfl, ?_⟩) (by assumption) ?_
    rotate_left
    · (intro w hSw; (try dsimp only at hSw); obtain ⟨t0, t1, t2⟩ := hSw; go_simp; try (with_reducible rfl))
    try simp only [Act.put, List.getElem_toArray, List.getElem_cons_succ, List.getElem_cons_zero, List.setIfInBounds_toArray, List.set_cons_zero, List.set_cons_succ]
    refine wpAnyH_ready (rs := [11]) (by kernel_rfl) (by simp) ?_
    refine AllReadyH.cons rfl (fun K hK => ?_) AllReadyH.nil
    go_simp
    refine (HA.out _).mono ?_
    rintro e w1 ⟨rfl, rfl⟩
    try go_simp
    refine hK.out _ _ ⟨g0, g1, k0⟩ (fun hHeld1 => ?_)
    clear hK K
    try simp only [Act.put, List.getElem_toArray, List.getElem_cons_succ, List.getElem_cons_zero, List.setIfInBounds_toArray, List.set_cons_zero, List.set_cons_succ]
    refine wpAnyH_take (i := 13) (v := ?_) rfl (by kernel_rfl) (by kernel_rfl) (by kernel_rfl) (fun _ _ _ h => h) (Or.inl ⟨by rfl, ?_⟩) (by assumption) ?_
    rotate_left
    · (intro w hSw; (try dsimp only at hSw); obtain ⟨t0, t1, t2⟩ := hSw; go_simp; try (with_reducible rfl))
    try simp only [Act.put, List.getElem_toArray, List.getElem_cons_succ, List.getElem_cons_zero, List.setIfInBounds_toArray, List.set_cons_zero, List.set_cons_succ]
    refine wpAnyH_take (i := 14) (v := ?_) rfl (by kernel_rfl) (by kernel_rfl) (by kernel_rfl) (fun _ _ _ h => h) (Or.inl ⟨by rfl, ?_⟩) (by assumption) ?_
    rotate_left
    · (intro w hSw; (try dsimp only at hSw); obtain ⟨t0, t1, t2⟩ := hSw; go_simp; try (with_reducible rfl))
    try simp only [Act.put, List.getElem_toArray, List.getElem_cons_succ, List.getElem_cons_zero, List.setIfInBounds_toArray, List.set_cons_zero, List.set_cons_succ]
    refine wpAnyH_done (by kernel_rfl) ?_ _
    go_wp2
    go_ret
    exact ⟨by first | rfl | (rw [← hre]; rfl), HTN.out _⟩
  · have q0 : (n : Int) < (i : Int) + 1 := by omega
    have hr2 : r = 0 := by rw [hr, nx, List.getElem?_eq_none (by omega)]; simp [aro]
    have HR2 := Lib.hid hr2
    clear hB hA hB1 hg hA1 hn hok hr hr2
    go_enter Tryz.func33, Tryz.ntmps33
    go_wp2
    go_quiet (fail)
    go_wp2
    go_ret
    exact ⟨by rw [HR2.out]; rfl, HTN.out _⟩
end Ot
end Go.Proofs.YtkicjjcangkneaaGreatDoor
