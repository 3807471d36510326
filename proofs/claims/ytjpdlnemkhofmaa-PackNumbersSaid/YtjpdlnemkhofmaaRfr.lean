/-
  The chapter's answer on reading: how many, a truth, a text, a name, and the end. For up to a million bytes.
-/
import Derived.Test.YtjpdlnemkhofmaaRfn
namespace Go.Proofs.Ytjpdlnemkhofmaa
open Go.RowKit
attribute [local go_sem ↓] Go.wp_at_zero Go.wp_at_succ

/-! ### how many -/
set_option maxHeartbeats 800000 in
theorem rmany_any {lo C : Nat} {l : List UInt8} {k : Nat} {e : Int} {w : World} (m : Int) (h : Cu lo 42 w C l k e) :
    Calls Try.prog 44 #[.pointer (some ⟨C, 0, none⟩), .int .i64 m] w fun x w' => x = .returned (i64v (Pk.stp 0 e (Pk.pMany m (l.drop k))).v) ∧ Cu lo 42 w' C l (k + (Pk.stp 0 e (Pk.pMany m (l.drop k))).n) (Pk.stp 0 e (Pk.pMany m (l.drop k))).e ∧ w.grownBy w' (some C) := by
  have hs := rint_any h
  have hb := zag_bounds e (l.drop k)
  have hz := stp_int_zero e (l.drop k)
  rw [stp_many m e _]
  obtain ⟨q, hq⟩ : ∃ q, q = Pk.stp 0 e (Pk.pInt (l.drop k)) := ⟨_, rfl⟩
  rw [← hq] at hs hb hz ⊢
  obtain ⟨u, hu⟩ : ∃ u, u = q.v := ⟨_, rfl⟩
  rw [← hu] at hs hb hz ⊢
  obtain ⟨A, c, _, c1, _⟩ := h.all
  have hpl := h.place.1
  have HS := Lib.hid hs
  have HU := Lib.hid hu
  have HP := Lib.hid hpl
  clear hs hq h hu hpl
  by_cases hc : q.e = 0 ∧ (u < 0 ∨ m < u)
  · rw [if_pos hc]
    obtain ⟨he, hc⟩ := hc
    have hb2 : ∃ b1 b2 : Bool, decide (u < 0) = b1 ∧ decide (m < u) = b2 ∧ (b1 = true ∨ (b1 = false ∧ b2 = true)) := by
      refine ⟨_, _, rfl, rfl, ?_⟩
      simp only [decide_eq_false_iff_not, decide_eq_true_eq]
      omega
    obtain ⟨b1, b2, B1, B2, hb2⟩ := hb2
    have HE := Lib.hid he
    clear hc he hz
    rcases hb2 with rfl | ⟨rfl, rfl⟩
    all_goals
      go_enter Try.func44, Try.ntmps44
      go_wp2_with fail
      refine (HS.out).mono ?_
      rintro x w1 ⟨rfl, hcu, hg⟩
      rw [HE.out] at hcu
      obtain ⟨A1, d, _, d1, d2, f1, f2, _⟩ := hcu.all
      have hw := hcu.wrongs 7
      have hv := hw.1.moved HP.out
      have d1' : (w1.setCell ⟨C, 2, none⟩ (.int .i64 7)).cell? ⟨C, 1, none⟩ = some (.int .i64 ((k + q.n : Nat) : Int)) := hw.1.cells.2.2
      have f1' : (w1.setCell ⟨C, 2, none⟩ (.int .i64 7)).frozen? ⟨C, 1, none⟩ = false := hw.1.cells.2.1
      have HW := Lib.hid (And.intro hv.1 ((hg.trans hw.2).trans hv.2))
      unfold i64v
      clear HS hcu hg hw hv
      go_wp2
      go_ret
      exact ⟨rfl, HW.out.1, HW.out.2⟩
  · rw [if_neg hc]
    by_cases he : q.e = 0
    · have hc0 : ¬ u < 0 := by omega
      have hc1 : ¬ m < u := by omega
      have he1 : (q.e == 0) = true := by rw [beq_iff_eq]; exact he
      clear hc hz he
      go_enter Try.func44, Try.ntmps44
      go_wp2_with fail
      refine (HS.out).mono ?_
      rintro x w1 ⟨rfl, hcu, hg⟩
      have d2 := hcu.cells.1
      have HD := Lib.hid (And.intro hcu hg)
      unfold i64v
      clear HS hcu hg
      go_wp2
      go_ret
      exact ⟨ret_i64' HU.out, HD.out⟩
    · have he1 : (q.e == 0) = false := by rw [beq_eq_false_iff_ne]; exact he
      clear hc hz he
      go_enter Try.func44, Try.ntmps44
      go_wp2_with fail
      refine (HS.out).mono ?_
      rintro x w1 ⟨rfl, hcu, hg⟩
      have d2 := hcu.cells.1
      have HD := Lib.hid (And.intro hcu hg)
      unfold i64v
      clear HS hcu hg
      go_wp2
      go_ret
      exact ⟨ret_i64' HU.out, HD.out⟩

/-! ### a truth -/
set_option maxHeartbeats 800000 in
theorem rbool_any {lo C : Nat} {l : List UInt8} {k : Nat} {e : Int} {w : World} (h : Cu lo 42 w C l k e) :
    Calls Try.prog 46 #[.pointer (some ⟨C, 0, none⟩)] w fun x w' => x = .returned (.bool (Pk.stp false e (Pk.pBool (l.drop k))).v) ∧ Cu lo 42 w' C l (k + (Pk.stp false e (Pk.pBool (l.drop k))).n) (Pk.stp false e (Pk.pBool (l.drop k))).e ∧ w.grownBy w' (some C) := by
  have hs := rint_any h
  have hb := zag_bounds e (l.drop k)
  rw [stp_bool, stp_many 1 e _]
  obtain ⟨q, hq⟩ : ∃ q, q = Pk.stp 0 e (Pk.pInt (l.drop k)) := ⟨_, rfl⟩
  rw [← hq] at hs hb ⊢
  obtain ⟨u, hu⟩ : ∃ u, u = q.v := ⟨_, rfl⟩
  rw [← hu] at hs hb ⊢
  obtain ⟨A, c, _, c1, _⟩ := h.all
  have hpl := h.place.1
  have HS := Lib.hid hs
  have HU := Lib.hid hu
  have HP := Lib.hid hpl
  clear hs hq h hu hpl
  by_cases hc : q.e = 0 ∧ (u < 0 ∨ 1 < u)
  · rw [if_pos hc]
    obtain ⟨he, hc⟩ := hc
    have B1 : (u != 0) = true := by rw [bne_iff_ne]; omega
    have B2 : (u != 1) = true := by rw [bne_iff_ne]; omega
    have HE := Lib.hid he
    clear hc he
    go_enter Try.func46, Try.ntmps46
    go_wp2_with fail
    refine (HS.out).mono ?_
    rintro x w1 ⟨rfl, hcu, hg⟩
    rw [HE.out] at hcu
    obtain ⟨A1, d, _, d1, d2, f1, f2, _⟩ := hcu.all
    have hw := hcu.wrongs 7
    have hv := hw.1.moved HP.out
    have d1' : (w1.setCell ⟨C, 2, none⟩ (.int .i64 7)).cell? ⟨C, 1, none⟩ = some (.int .i64 ((k + q.n : Nat) : Int)) := hw.1.cells.2.2
    have f1' : (w1.setCell ⟨C, 2, none⟩ (.int .i64 7)).frozen? ⟨C, 1, none⟩ = false := hw.1.cells.2.1
    have HW := Lib.hid (And.intro hv.1 ((hg.trans hw.2).trans hv.2))
    unfold i64v
    clear HS hcu hg hw hv
    go_wp2
    go_ret
    exact ⟨rfl, HW.out.1, HW.out.2⟩
  · rw [if_neg hc]
    have hb3 : ∃ b0 b1 b2 : Bool, (q.e == 0) = b0 ∧ (u != 0) = b1 ∧ (u != 1) = b2 ∧ (b0 = false ∨ (b0 = true ∧ b1 = false) ∨ (b0 = true ∧ b1 = true ∧ b2 = false)) := by
      refine ⟨_, _, _, rfl, rfl, rfl, ?_⟩
      simp only [beq_eq_false_iff_ne, beq_iff_eq, bne_iff_ne, bne_eq_false_iff_eq, ne_eq]
      omega
    obtain ⟨b0, b1, b2, B0, B1, B2, hb3⟩ := hb3
    clear hc
    rcases hb3 with rfl | ⟨rfl, rfl⟩ | ⟨rfl, rfl, rfl⟩
    all_goals
      go_enter Try.func46, Try.ntmps46
      go_wp2_with fail
      refine (HS.out).mono ?_
      rintro x w1 ⟨rfl, hcu, hg⟩
      have d2 := hcu.cells.1
      have HD := Lib.hid (And.intro hcu hg)
      unfold i64v
      clear HS hcu hg
      go_wp2
      go_ret
      exact ⟨congrArg Ending.returned (congrArg Value.bool (by rw [← HU.out, Bool.eq_iff_iff, beq_iff_eq, decide_eq_true_iff])), HD.out⟩

/-! ### the end -/
set_option maxHeartbeats 800000 in
theorem rend_any {lo C : Nat} {l : List UInt8} {k : Nat} {e : Int} {w : World} (h : Cu lo 42 w C l k e) :
    Calls Try.prog 47 #[.pointer (some ⟨C, 0, none⟩)] w fun x w' => x = .returned (.int .i64 (endd l.length k e)) ∧ ∃ n, w' = w.drewN n := by
  obtain ⟨A, c, c0, c1, c2, _⟩ := h.all
  have hpl := h.place
  obtain ⟨z, hz⟩ : ∃ z, z = endd l.length k e := ⟨_, rfl⟩
  rw [← hz]
  unfold endd at hz
  obtain ⟨m, hm⟩ : ∃ m, m = l.length := ⟨_, rfl⟩
  rw [← hm] at hz c0 hpl
  by_cases he : e = 0
  · have he1 : (e == 0) = true := by rw [beq_iff_eq]; exact he
    by_cases hk : k < m
    · have B1 : decide (k < m) = true := decide_eq_true (by omega)
      have HZ := Lib.hid (show z = 2 by rw [hz, if_pos ⟨he, hk⟩])
      clear h hz he hpl hk hm
      go_enter Try.func47, Try.ntmps47
      go_wp2_with fail
      go_quiet (fail)
      go_wp2
      go_ret
      exact ⟨ret_i64' HZ.out.symm, _, rfl⟩
    · have B1 : decide (k < m) = false := decide_eq_false (by omega)
      have HZ := Lib.hid (show z = e by rw [hz, if_neg (fun h => hk h.2)])
      clear h hz he hpl hk hm
      go_enter Try.func47, Try.ntmps47
      go_wp2_with fail
      go_quiet (fail)
      go_wp2
      go_ret
      exact ⟨ret_i64' HZ.out.symm, _, rfl⟩
  · have he1 : (e == 0) = false := by rw [beq_eq_false_iff_ne]; exact he
    have HZ := Lib.hid (show z = e by rw [hz, if_neg (fun h => he h.1)])
    clear h hz he hpl hm
    go_enter Try.func47, Try.ntmps47
    go_wp2_with fail
    go_quiet (fail)
    go_wp2
    go_ret
    exact ⟨ret_i64' HZ.out.symm, _, rfl⟩

/-! ### a text -/
set_option maxRecDepth 100000 in
set_option maxHeartbeats 1000000 in
theorem rtext_any {lo C : Nat} {l : List UInt8} {k : Nat} {e : Int} {w : World} (h : Cu lo 42 w C l k e) :
    Calls Try.prog 45 #[.pointer (some ⟨C, 0, none⟩)] w fun x w' => x = .returned (strv (Pk.stp [] e (Pk.pText (l.drop k))).v) ∧ Cu lo 42 w' C l (k + (Pk.stp [] e (Pk.pText (l.drop k))).n) (Pk.stp [] e (Pk.pText (l.drop k))).e ∧ w.grownBy w' (some C) := by
  have hs := rint_any h
  have hb := zag_bounds e (l.drop k)
  have hz := stp_int_zero e (l.drop k)
  have hpl := h.place
  rw [stp_text]
  obtain ⟨q, hq⟩ : ∃ q, q = Pk.stp 0 e (Pk.pInt (l.drop k)) := ⟨_, rfl⟩
  rw [← hq] at hs hb hz ⊢
  obtain ⟨u, hu⟩ : ∃ u, u = q.v := ⟨_, rfl⟩
  rw [← hu] at hs hb hz ⊢
  obtain ⟨A, c, _, c1, _⟩ := h.all
  have HS := Lib.hid hs
  have HZ := Lib.hid hz
  have HP := Lib.hid hpl
  clear hs hq h hu hz hpl
  by_cases he : q.e = 0
  · rw [if_neg (fun h => h he)]
    have he1 : (q.e != 0) = false := by rw [he]; rfl
    have HE := Lib.hid he
    clear he HZ
    by_cases h0 : u < 0
    · rw [if_pos h0]
      go_enter Try.func45, Try.ntmps45
      go_wp2_with fail
      refine (HS.out).mono ?_
      rintro x w1 ⟨rfl, hcu, hg⟩
      rw [HE.out] at hcu
      obtain ⟨A1, d, _, d1, d2, f1, f2, _⟩ := hcu.all
      have hw := hcu.wrongs 7
      have hv := hw.1.moved HP.out.1
      have d1' : (w1.setCell ⟨C, 2, none⟩ (.int .i64 7)).cell? ⟨C, 1, none⟩ = some (.int .i64 ((k + q.n : Nat) : Int)) := hw.1.cells.2.2
      have f1' : (w1.setCell ⟨C, 2, none⟩ (.int .i64 7)).frozen? ⟨C, 1, none⟩ = false := hw.1.cells.2.1
      have HW := Lib.hid (And.intro hv.1 ((hg.trans hw.2).trans hv.2))
      unfold i64v
      clear HS hcu hg hw hv
      go_wp2
      go_ret
      exact ⟨rfl, HW.out.1, HW.out.2⟩
    · rw [if_neg h0]
      obtain ⟨n, rfl⟩ := Int.eq_ofNat_of_zero_le (by omega : 0 ≤ u)
      rw [List.length_drop]
      obtain ⟨m, hm⟩ : ∃ m, m = l.length := ⟨_, rfl⟩
      obtain ⟨k2, hk2⟩ : ∃ k2, k2 = k + q.n := ⟨_, rfl⟩
      obtain ⟨r, hr⟩ : ∃ r, r = m - k2 := ⟨_, rfl⟩
      by_cases hl : ((l.length - k - q.n : Nat) : Int) < (n : Int)
      · rw [if_pos hl]
        have B1 : decide (r < n) = true := decide_eq_true (by omega)
        have B1' : r < n := by omega
        clear hl
        go_enter Try.func45, Try.ntmps45
        go_wp2_with fail
        refine (HS.out).mono ?_
        rintro x w1 ⟨rfl, hcu, hg⟩
        rw [HE.out, ← hk2] at hcu
        have hpl := hcu.place
        obtain ⟨A1, d, d0, d1, d2, f1, f2, _⟩ := hcu.all
        rw [← hm] at d0
        have hd : (m : Int) - (k2 : Int) = (r : Int) := by omega
        have hw := fun nn : Nat => (hcu.drew nn).wrongs 9
        have hv := fun nn : Nat => (hw nn).1.moved HP.out.1
        have d1' : ∀ nn : Nat, ((w1.drewN nn).setCell ⟨C, 2, none⟩ (.int .i64 9)).cell? ⟨C, 1, none⟩ = some (.int .i64 (k2 : Int)) := fun nn => (hw nn).1.cells.2.2
        have f1' : ∀ nn : Nat, ((w1.drewN nn).setCell ⟨C, 2, none⟩ (.int .i64 9)).frozen? ⟨C, 1, none⟩ = false := fun nn => (hw nn).1.cells.2.1
        have HW := Lib.hid (fun nn : Nat => And.intro (hv nn).1 (((only_drewN hg nn).trans (hw nn).2).trans (hv nn).2))
        have hkb : k2 ≤ 1000000 := by omega
        have hmb : m ≤ 1000000 := by omega
        unfold i64v
        clear HS hcu hg hw hv hpl hr hk2 hm
        go_wp2
        go_quiet (fail)
        go_wp2
        go_ret
        exact ⟨rfl, (HW.out _).1, (HW.out _).2⟩
      · rw [if_neg hl, List.drop_drop, ← hk2, Int.toNat_natCast]
        have B1 : decide (r < n) = false := decide_eq_false (by omega)
        have B1' : ¬ r < n := by omega
        have HL := Lib.hid hl
        obtain ⟨p3, hp3⟩ : ∃ p3, p3 = k2 + n := ⟨_, rfl⟩
        clear hl
        go_enter Try.func45, Try.ntmps45
        go_wp2_with fail
        refine (HS.out).mono ?_
        rintro x w1 ⟨rfl, hcu, hg⟩
        rw [HE.out, ← hk2] at hcu
        have hpl := hcu.place
        have hp3l : p3 ≤ l.length := by have := HL.out; omega
        obtain ⟨A1, d, d0, d1, d2, f1, f2, hA, hcap⟩ := hcu.all
        obtain ⟨A', hsl, hrd⟩ := slice_cut A1 l.length d k2 p3 (by omega) hp3l hcap l rfl
        have hnn : p3 - k2 = n := by omega
        rw [hnn] at hsl hrd
        rw [← hm] at d0 hsl
        have hd : (m : Int) - (k2 : Int) = (r : Int) := by omega
        have hd2 : (k2 : Int) + (n : Int) = (p3 : Int) := by omega
        have hd3 : (p3 : Int) - (n : Int) = (k2 : Int) := by omega
        have hv := fun nn : Nat => (hcu.drew nn).moved hp3l
        have d0' : ∀ nn : Nat, ((w1.drewN nn).setCell ⟨C, 1, none⟩ (.int .i64 (p3 : Int))).cell? ⟨C, 0, none⟩ = some (.slice A1 m d) := fun nn => by
          obtain ⟨B, hB⟩ : ∃ t, Blk w1 C t #[.slice A1 m d, .int .i64 (k2 : Int), .int .i64 0] := by
            obtain ⟨A2, d2', hB, _⟩ := hcu
            have h0 := hB.cell 0
            rw [d0] at h0
            injection h0 with h0
            exact ⟨42, by rw [h0]; exact hB⟩
          exact ((show Blk (w1.drewN nn) C B _ from hB).set_ 1 (.int .i64 (p3 : Int))).cell 0
        have d1' : ∀ nn : Nat, ((w1.drewN nn).setCell ⟨C, 1, none⟩ (.int .i64 (p3 : Int))).cell? ⟨C, 1, none⟩ = some (.int .i64 (p3 : Int)) := fun nn => (hv nn).1.cells.2.2
        have hcv : ∀ nn mm : Nat, (convert 23 9 (.slice A' n (d - k2))).run Try.prog (((w1.drewN nn).setCell ⟨C, 1, none⟩ (.int .i64 (p3 : Int))).drewN mm) = .ok (.string ⟨((l.drop k2).take n).toArray⟩) (((w1.drewN nn).setCell ⟨C, 1, none⟩ (.int .i64 (p3 : Int))).drewN mm) := fun nn mm =>
          conv_rd A' n (d - k2) lo _ _ (by rw [List.length_take, List.length_drop]; omega) (hrd lo _ ((show Rd lo (w1.drewN nn) A1 (u8s l) from hA).only (only_drewN (hv nn).2 mm) hcu.lo_le))
        have HW := Lib.hid (fun nn : Nat => And.intro (hv nn).1 ((only_drewN hg nn).trans (hv nn).2))
        have hkb : k2 ≤ 1000000 := by omega
        have hmb : m ≤ 1000000 := by omega
        have hpb : p3 ≤ 1000000 := by omega
        have hnb : n ≤ 1000000 := by omega
        have HK := Lib.hid (show k + (q.n + n) = p3 by omega)
        obtain ⟨V, hV⟩ : ∃ V : ByteArray, V = ⟨((l.drop k2).take n).toArray⟩ := ⟨_, rfl⟩
        rw [← hV] at hcv
        have HVV := Lib.hid hV
        obtain ⟨dk, hdk⟩ : ∃ dk, dk = d - k2 := ⟨_, rfl⟩
        rw [← hdk] at hcv hsl
        unfold i64v
        clear HS hcu hg hv hpl hr hk2 hm hA hcap hrd hnn HL hp3 hp3l hV hdk
        go_wp2
        go_quiet (fail)
        go_wp2
        go_quiet (fail)
        go_wp2
        go_ret
        exact ⟨congrArg (fun v => Ending.returned (Value.string v)) HVV.out, by rw [HK.out]; exact (HW.out _).1.drew _, only_drewN (HW.out _).2 _⟩
  · rw [if_pos he]
    have he1 : (q.e != 0) = true := by rw [bne_iff_ne]; exact he
    have HN := Lib.hid (HZ.out he).2
    clear he HZ
    go_enter Try.func45, Try.ntmps45
    go_wp2_with fail
    refine (HS.out).mono ?_
    rintro x w1 ⟨rfl, hcu, hg⟩
    rw [HN.out] at hcu
    have d2 := hcu.cells.1
    have HD := Lib.hid (And.intro hcu hg)
    unfold i64v
    clear HS hcu hg
    go_wp2
    go_ret
    exact ⟨rfl, HD.out.1, HD.out.2⟩

end Go.Proofs.Ytjpdlnemkhofmaa
