/-
  Parts of lists of shares; the document's example of chapter 9 holds: the shares of 5 by (2) are 7, 9, 11, and the last two tell 5.
-/
import Derived.Test.YthnbkbmhlalpaaaShj
namespace Go.Proofs.Ythnbkbmhlalpaaa
open Go.RowKit Go.Maps
attribute [local go_sem ↓] Go.wp_at_zero Go.wp_at_succ

/-! ### parts -/
theorem share_elem : Try.prog.underlying 27 = some (.slice (Try.prog.elem 27)) := by kernel_rfl
theorem share_size (W : World) : (sizeOf (Try.prog.elem 27)).run Try.prog W = .ok 2 W := by kernel_rfl
theorem St.part {w : World} {A : Option Addr} {n c : Nat} {l : List Shr} (h : St w A n c l) {lo hi q : Nat} (h1 : lo ≤ hi) (h2 : hi ≤ n) (hq : q = hi - lo) : ∃ A' c', sliced A lo hi c 2 = .slice A' q c' ∧ St w A' q c' ((l.take hi).drop lo) := by
  subst hq
  have hlen := h.len
  have hcap := h.cap
  refine ⟨_, _, rfl, ?_, fun hp => ?_, by omega, fun e => ?_, fun s hs => h.small s (List.mem_of_mem_take (List.mem_of_mem_drop hs))⟩
  · rw [List.length_drop, List.length_take]; omega
  · rw [List.length_drop, List.length_take] at hp
    obtain ⟨b, off, e, hlt, hc⟩ := h.rd (by omega)
    rw [if_neg (by omega), e]
    refine ⟨b, off + lo * 2, by simp only [Option.map_some]; rw [Addr.add_lit], hlt, fun i s hs => ?_⟩
    rw [List.getElem?_drop, List.getElem?_take] at hs
    split at hs
    · have h3 := hc (lo + i) s hs
      rw [show off + (lo + i) * 2 = off + lo * 2 + i * 2 by omega] at h3
      exact h3
    · cases hs
  · split at e
    · have := h.nil e; omega
    · cases A with
      | none => have := h.nil rfl; omega
      | some a => cases e
theorem run_from {A : Option Addr} {n c lo : Nat} (h : lo ≤ n) (W : World) : (Instr.slice 27 (.slice A n c) (some (.int .i64 (lo : Int))) none none).run Try.prog W = .ok (sliced A lo n c 2) W := by
  have h1 := run_slice_l (P := Try.prog) W 27 A n c share_elem .i64 (lo : Int) (by omega) (by omega)
  rw [h1, share_size]
  simp only [Result.andThen, Int.toNat_natCast]
theorem run_till {A : Option Addr} {n c hi : Nat} (h : hi ≤ c) (W : World) : (Instr.slice 27 (.slice A n c) none (some (.int .i64 (hi : Int))) none).run Try.prog W = .ok (sliced A 0 hi c 2) W := by
  have h1 := run_slice_h (P := Try.prog) W 27 A n c share_elem .i64 (hi : Int) (by omega) (by omega)
  rw [h1, share_size]
  simp only [Result.andThen, Int.toNat_natCast]
theorem run_both {A : Option Addr} {n c lo hi : Nat} (h1 : lo ≤ hi) (h : hi ≤ c) (W : World) : (Instr.slice 27 (.slice A n c) (some (.int .i64 (lo : Int))) (some (.int .i64 (hi : Int))) none).run Try.prog W = .ok (sliced A lo hi c 2) W := by
  have h1 := run_slice_lh (P := Try.prog) W 27 A n c share_elem .i64 .i64 (lo : Int) (hi : Int) (by omega) (by omega) (by omega)
  rw [h1, share_size]
  simp only [Result.andThen, Int.toNat_natCast]

/-! ### the example -/
theorem Sr.lv_split : Sr.split [5, 2] 3 = [⟨1, 7⟩, ⟨2, 9⟩, ⟨3, 11⟩] := by decide +kernel
theorem Sr.lv_tell : Sr.tell [⟨2, 9⟩, ⟨3, 11⟩] 0 = (5, 0) := by
  have h9 : vl (Pl.co [5, 2]) 2 = 9 := by rw [← hv_vl]; decide +kernel
  have h11 : vl (Pl.co [5, 2]) 3 = 11 := by rw [← hv_vl]; decide +kernel
  have ho : Sr.Of (Pl.co [5, 2]) [⟨2, 9⟩, ⟨3, 11⟩] := by
    refine ⟨fun s hs => ?_, by decide⟩
    rcases List.mem_cons.1 hs with rfl | hs
    · exact ⟨by decide, by decide, h9.symm⟩
    · rw [List.mem_singleton.1 hs]
      exact ⟨by decide, by decide, h11.symm⟩
  rw [ho.tell (Pl.Lt.co [5, 2]) (by decide) (by simp), ← hv_vl]
  decide +kernel

set_option maxRecDepth 100000 in
set_option maxHeartbeats 4000000 in
theorem lives9_any (w : World) : Calls Try.prog 15 #[] w fun e w' => e = .returned (.bool true) ∧ Below w.heap.size w w' := by
  have h1 : Pt (w.alloc (.cells #[.int .u64 2] 22)) (some ⟨w.heap.size, 0, none⟩) 1 1 [2] := ⟨rfl, rd_one w 2, Nat.le_refl _, fun e => by cases e⟩
  have hb0 : Below w.heap.size w (w.alloc (.cells #[.int .u64 2] 22)) := (Below.refl _ w).alloc (Nat.le_refl _) _
  have H := Lib.hid (split_any 5 3 1 1 (some ⟨w.heap.size, 0, none⟩) [5, 2] [2] _ rfl h1 (by omega) (by simp) (by omega) (by omega) (by omega))
  have HB0 := Lib.hid hb0
  have e1 : ∀ W, (binOp .eql 33 (.agg #[.int .u64 1, .int .u64 7]) (.agg #[.int .u64 1, .int .u64 7])).run Try.prog W = .ok (.bool true) W := fun W => share_eql 1 7 1 7 W
  have e2 : ∀ W, (binOp .eql 33 (.agg #[.int .u64 3, .int .u64 11]) (.agg #[.int .u64 3, .int .u64 11])).run Try.prog W = .ok (.bool true) W := fun W => share_eql 3 11 3 11 W
  have hfree := share_free
  clear h1 hb0
  go_enter Try.func15, Try.ntmps15
  go_wp2_with fail
  refine (H.out).mono ?_
  rintro e w1 ⟨⟨B, rfl, hst⟩, hb1⟩
  have hk1 := HB0.out.trans (hb1.mono HB0.out.size)
  rw [Sr.lv_split] at hst
  obtain ⟨b, off, rfl, hbl, -, c1, c2⟩ := hst.spot (k := 0) rfl
  obtain ⟨b2, off2, e3, -, -, c3, c4⟩ := hst.spot (k := 2) rfl
  injection e3 with e3
  injection e3 with e3 e4
  subst e3 e4
  obtain ⟨A', c', hsl, hst2⟩ := hst.part (lo := 1) (hi := 3) (q := 2) (by omega) (by omega) rfl
  have hrun := fun W => (run_from (A := some ⟨b, off, none⟩) (n := 3) (c := 3) (lo := 1) (by omega) W).trans (by rw [hsl])
  have HJ := Lib.hid (fun W (h : St W A' 2 c' [⟨2, 9⟩, ⟨3, 11⟩]) => join_any A' 2 c' 5 0 _ W h (by omega) Sr.lv_tell)
  have HS2 := Lib.hid hst2
  have HK1 := Lib.hid hk1
  have hrun2 : ∀ W, (Instr.slice 27 (.slice (some ⟨b, off, none⟩) 3 3) (some (.int .i64 1)) none none).run Try.prog W = .ok (.slice A' 2 c') W := hrun
  have k1 : w1.cell? ⟨b, off, none⟩ = some (.int .u64 1) := c1
  have k2 : w1.cell? ⟨b, off + 1, none⟩ = some (.int .u64 7) := c2
  have k3 : w1.cell? ⟨b, off + 4, none⟩ = some (.int .u64 3) := c3
  have k4 : w1.cell? ⟨b, off + 5, none⟩ = some (.int .u64 11) := c4
  clear hst hst2 hk1 hb1 hsl hrun H HB0 c1 c2 c3 c4
  go_wp2_with fail
  refine (HJ.out _ HS2.out).mono ?_
  rintro e w2 ⟨rfl, hb2⟩
  have r1 := (hb2.cell (p := ⟨b, off, none⟩) hbl).trans k1
  have r2 := (hb2.cell (p := ⟨b, off + 1, none⟩) hbl).trans k2
  have r3 := (hb2.cell (p := ⟨b, off + 4, none⟩) hbl).trans k3
  have r4 := (hb2.cell (p := ⟨b, off + 5, none⟩) hbl).trans k4
  have HK2 := Lib.hid (kept_trans HK1.out hb2)
  clear k1 k2 k3 k4 hb2 hrun2
  go_wp2
  go_ret
  exact ⟨rfl, HK2.out⟩

end Go.Proofs.Ythnbkbmhlalpaaa
