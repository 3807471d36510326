/-
  Names looked for among others, and names in their row: the reference's. No condition but how many.
-/
import Derived.Test.YtkicjjcangkneaaGreatDoorOtq
import Derived.Test.YtkicjjcangkneaaGreatDoorOtn
namespace Go.Proofs.YtkicjjcangkneaaGreatDoor
open Go.RowKit
attribute [local go_sem ↓] Go.wp_at_zero Go.wp_at_succ
set_option maxRecDepth 100000
namespace Ot
theorem Lz.part {α : Type} {K : Kd α} {F : Nat → Prop} {w : World} {x : Ls α} (h : Lz K F w x) {lo hi : Nat} (h1 : lo ≤ hi) (h2 : hi ≤ x.l.length) : ∃ A' c', sliced x.A lo hi x.c K.k = .slice A' (hi - lo) c' ∧ Lz K F w ⟨(x.l.take hi).drop lo, A', c'⟩ := by
  have hcap := h.cap
  refine ⟨_, _, rfl, fun hp => ?_, ?_, fun e => ?_⟩
  · have hp : 0 < ((x.l.take hi).drop lo).length := hp
    rw [List.length_drop, List.length_take] at hp
    obtain ⟨b, off, e, hlt, hf, hc⟩ := h.rd (by omega)
    rw [if_neg (by omega), e]
    refine ⟨b, off + lo * K.k, by simp only [Option.map_some]; rw [Addr.add_lit], hlt, hf, fun i u hu => ?_⟩
    have hu : (K.cells ((x.l.take hi).drop lo))[i]? = some u := hu
    rw [K.cells_drop, K.cells_take, List.getElem?_drop, List.getElem?_take] at hu
    split at hu
    · have h3 := hc _ u hu
      rw [Nat.add_assoc]
      exact h3
    · cases hu
  · show ((x.l.take hi).drop lo).length ≤ x.c - lo
    rw [List.length_drop, List.length_take]
    omega
  · have e : (if x.c = lo then x.A else x.A.map (·.add (lo * K.k))) = none := e
    show x.c - lo = 0
    split at e
    · omega
    · cases hA : x.A with
      | none => have := h.nil hA; omega
      | some a => rw [hA] at e; cases e
theorem nm_elem : Tryz.prog.underlying 23 = some (.slice (Tryz.prog.elem 23)) := by kernel_rfl
theorem nm_size (W : World) : (sizeOf (Tryz.prog.elem 23)).run Tryz.prog W = .ok 3 W := by kernel_rfl
theorem nm_from {A : Option Addr} {n c lo : Nat} (h : lo ≤ n) (W : World) : (Instr.slice 23 (.slice A n c) (some (.int .i64 (lo : Int))) none none).run Tryz.prog W = .ok (sliced A lo n c 3) W := by
  have h1 := run_slice_l (P := Tryz.prog) W 23 A n c nm_elem .i64 (lo : Int) (by omega) (by omega)
  rw [h1, nm_size]
  simp only [Result.andThen, Int.toNat_natCast]
theorem nm_till {A : Option Addr} {n c hi : Nat} (h : hi ≤ c) (W : World) : (Instr.slice 23 (.slice A n c) none (some (.int .i64 (hi : Int))) none).run Tryz.prog W = .ok (sliced A 0 hi c 3) W := by
  have h1 := run_slice_h (P := Tryz.prog) W 23 A n c nm_elem .i64 (hi : Int) (by omega) (by omega)
  rw [h1, nm_size]
  simp only [Result.andThen, Int.toNat_natCast]

/-! ### a row -/
theorem less_irr (x : Pk.Nm) : nmLess x x = false := by unfold nmLess; rw [decide_eq_false_iff_not]; omega
theorem less_trans {x y z : Pk.Nm} (h : nmLess x y = true) (k : nmLess y z = true) : nmLess x z = true := by
  unfold nmLess at *
  rw [decide_eq_true_eq] at *
  omega
theorem less_tot {x y : Pk.Nm} (h : nmLess x y = false) (hne : x ≠ y) : nmLess y x = true := by
  unfold nmLess at *
  rw [decide_eq_false_iff_not] at h
  rw [decide_eq_true_eq]
  obtain ⟨a, b, c⟩ := x
  obtain ⟨a', b', c'⟩ := y
  have : ¬ (a = a' ∧ b = b' ∧ c = c') := fun ⟨h1, h2, h3⟩ => hne (by rw [h1, h2, h3])
  simp only at h ⊢
  omega
/-- The names of l in their row. -/
def Ins (z l : List Pk.Nm) : Prop := List.Perm z l ∧ (l.Nodup → z.Pairwise (fun a b => nmLess a b = true))
theorem Ins.nil : Ins [] [] := ⟨List.Perm.refl _, fun _ => List.Pairwise.nil⟩
theorem Ins.put {z l : List Pk.Nm} {y : Pk.Nm} {k : Nat} (h : Ins z l) (hk : k ≤ z.length) (h1 : ∀ j x, k ≤ j → z[j]? = some x → nmLess y x = true) (h2 : k = 0 ∨ ∃ x, z[k - 1]? = some x ∧ nmLess y x = false) : Ins (z.take k ++ [y] ++ z.drop k) (l ++ [y]) := by
  refine ⟨?_, fun hnd => ?_⟩
  · have e : List.Perm (z.take k ++ [y] ++ z.drop k) (z ++ [y]) := by
      have h3 : List.Perm ([y] ++ z.drop k) (z.drop k ++ [y]) := List.perm_append_comm
      have h4 := h3.append_left (z.take k)
      rw [← List.append_assoc, ← List.append_assoc, List.take_append_drop] at h4
      exact h4
    exact e.trans (h.1.append_right [y])
  · have hnd2 := List.nodup_append.1 hnd
    have hp := h.2 hnd2.1
    have hny : y ∉ z := fun hy => by
      have := (h.1.mem_iff).1 hy
      exact hnd2.2.2 y this y (List.mem_singleton_self y) rfl
    have hz := hp
    rw [← List.take_append_drop k z] at hz
    obtain ⟨p1, p2, p3⟩ := List.pairwise_append.1 hz
    have hlow : ∀ a ∈ z.take k, nmLess a y = true := by
      intro a ha
      rcases h2 with h0 | ⟨x, hx, hlx⟩
      · subst h0; simp at ha
      · have hx2 : x ∈ z := List.mem_of_getElem? hx
        have hxy := less_tot hlx (fun e => hny (e ▸ hx2))
        obtain ⟨j, hj, ej⟩ := List.mem_iff_getElem.1 ha
        have hjk : j < k := by rw [List.length_take] at hj; omega
        have hjz : j < z.length := by rw [List.length_take] at hj; omega
        have ej2 : z[j] = a := by rw [List.getElem_take] at ej; exact ej
        by_cases hjj : j = k - 1
        · subst hjj
          rw [List.getElem?_eq_getElem hjz, ej2] at hx
          injection hx with hx
          exact hx ▸ hxy
        · have hkz : k - 1 < z.length := by omega
          have h5 := (List.pairwise_iff_getElem.1 hp) j (k - 1) hjz hkz (by omega)
          rw [List.getElem?_eq_getElem hkz] at hx
          injection hx with hx
          rw [hx, ej2] at h5
          exact less_trans h5 hxy
    have hhigh : ∀ b ∈ z.drop k, nmLess y b = true := by
      intro b hb
      obtain ⟨j, hj, ej⟩ := List.mem_iff_getElem.1 hb
      refine h1 (k + j) b (by omega) ?_
      rw [← List.getElem?_drop, List.getElem?_eq_getElem hj, ej]
    refine List.pairwise_append.2 ⟨List.pairwise_append.2 ⟨p1, List.pairwise_singleton _ _, fun a ha b hb => ?_⟩, p2, fun a ha b hb => ?_⟩
    · rw [List.mem_singleton.1 hb]; exact hlow a ha
    · rcases List.mem_append.1 ha with h6 | h6
      · exact p3 a h6 b hb
      · rw [List.mem_singleton.1 h6]; exact hhigh b hb

set_option maxHeartbeats 2000000 in
theorem hasid_any {w : World} (x : Ls Pk.Nm) (hx : Lz kNm No w x) (hb : x.l.length ≤ 1000000) (y : Pk.Nm) :
    Calls Tryz.prog 35 #[x.v, .agg #[.int .i64 y.a, .int .i64 y.b, .int .u64 (y.c : Int)]] w fun e w' => ∃ r : Bool, e = .returned (.bool r) ∧ (r = true ↔ y ∈ x.l) ∧ Below w.heap.size w w' := by
  obtain ⟨xs, A, c⟩ := x
  obtain ⟨n, hn⟩ : ∃ n, n = xs.length := ⟨_, rfl⟩
  have hb : n ≤ 1000000 := by rw [hn]; exact hb
  have hX := hx.bf (Bf.alloc w (.cells #[.int .i64 y.a, .int .i64 y.b, .int .u64 (y.c : Int)] 27))
  have hP := blk_new w 27 #[.int .i64 y.a, .int .i64 y.b, .int .u64 (y.c : Int)]
  have hbw := (Below.refl w.heap.size w).alloc (Nat.le_refl _) (.cells #[.int .i64 y.a, .int .i64 y.b, .int .u64 (y.c : Int)] 27)
  obtain ⟨w0, hw0⟩ : ∃ w0, w0 = w.alloc (.cells #[.int .i64 y.a, .int .i64 y.b, .int .u64 (y.c : Int)] 27) := ⟨_, rfl⟩
  show Calls _ _ #[.slice A xs.length c, _] w _
  rw [← hn]
  rw [← hw0] at hX hP hbw
  have HN := Lib.hid hn
  have HA := Lib.hid hX
  have HP := Lib.hid hP
  have HB := Lib.hid hbw
  have HW := Lib.hid hw0
  clear hn hx hX hP hbw hw0
  go_enter Tryz.func35, Tryz.ntmps35
  go_wp2
  go_loopw [5] (fun i wr => ∃ k j : Nat, k ≤ n ∧ i = .int .i64 k ∧ y ∉ xs.take k ∧ wr = w0.drewN j) (fun i _ => n - (intOf i).toNat)
  case atStart => exact ⟨0, 0, Nat.zero_le _, rfl, (by simp), HW.out.symm⟩
  case round =>
    obtain ⟨k, j, hk, rfl, htk, rfl⟩ := hrel
    have HT := Lib.hid htk
    clear htk
    have p0 : w0.cell? ⟨w.heap.size, 0, none⟩ = some (.int .i64 y.a) := HP.out.cell 0
    have p1 : w0.cell? ⟨w.heap.size, 1, none⟩ = some (.int .i64 y.b) := HP.out.cell 1
    have p2 : w0.cell? ⟨w.heap.size, 2, none⟩ = some (.int .u64 (y.c : Int)) := HP.out.cell 2
    by_cases hlt : k < n
    · obtain ⟨y1, hy1⟩ : ∃ y, xs[k]? = some y := ⟨_, List.getElem?_eq_getElem (by have := HN.out; omega)⟩
      obtain ⟨b, off, rfl, hbb, _, c0, c1, c2⟩ := HA.out.nm hy1
      have q0_ : (0 : Int) ≤ (k : Int) := by omega
      have q1_ : (k : Int) < (n : Int) := by omega
      have hnq := fun W => idn_eql y1 y W
      have hfr := fun op a b xs ys W => idn_free op a b xs ys W
      unfold nmv at hnq
      have htn := List.take_succ_eq_append_getElem (l := xs) (i := k) (by have := HN.out; omega)
      have hgk : xs[k]'(by have := HN.out; omega) = y1 := by
        have := List.getElem?_eq_getElem (l := xs) (i := k) (by have := HN.out; omega)
        rw [hy1] at this
        injection this with this
        exact this.symm
      rw [hgk] at htn
      by_cases hpq : y1 = y
      · have HF := Lib.hid (show y ∈ xs from hpq ▸ List.mem_of_getElem? hy1)
        rw [(nmAlike_iff y1 y).2 hpq] at hnq
        clear hy1 hpq htn hgk
        go_wp2
        go_quiet (fail)
        go_wp2
        go_ret
        exact ⟨true, rfl, ⟨fun _ => HF.out, fun _ => rfl⟩, HB.out.trans ((below_drewN w0 _ _).trans (below_drewN _ _ _))⟩
      · have HX := Lib.hid (show y ∉ xs.take (k + 1) by
          rw [htn]
          intro h
          rcases List.mem_append.1 h with h1 | h1
          · exact HT.out h1
          · exact hpq (List.mem_singleton.1 h1).symm)
        rw [show nmAlike y1 y = false from by rw [← Bool.not_eq_true, nmAlike_iff]; exact hpq] at hnq
        clear hy1 hpq htn hgk
        go_wp2
        go_quiet (fail)
        go_wp2
        go_roundw
        case rel => exact ⟨k + 1, _, hlt, by go_num, HX.out, rfl⟩
        case measure => simp [intOf]; omega
    · have hkn : k = n := by omega
      have HE := Lib.hid (show y ∉ xs by
        have h := HT.out
        rw [List.take_of_length_le (by have := HN.out; omega)] at h
        exact h)
      subst hkn
      go_wp2
      go_ret
      exact ⟨false, rfl, ⟨(fun h => nomatch h), fun h => absurd h HE.out⟩, HB.out.trans (below_drewN w0 _ _)⟩
end Ot
end Go.Proofs.YtkicjjcangkneaaGreatDoor
