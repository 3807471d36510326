/-
  The statements' get on pack: one of these is read by both, and both tell the same.
-/
import Derived.Test.YtjpdlnemkhofmaaPkC
import Derived.Test.YtjpdlnemkhofmaaRnm
namespace Go.Proofs.Ytjpdlnemkhofmaa
open Go.RowKit
attribute [local go_sem ↓] Go.wp_at_zero Go.wp_at_succ

theorem quiet_step_of {f : FuncId} {args : Array Value} {w : World} {n : Nat} {v : Value} (h : Calls Try.prog f args (w.drewN n) fun e w' => e = .returned v ∧ ∃ m, w' = (w.drewN n).drewN m) :
    Calls Try.prog f args (w.drewN n) fun e w'' => e = .returned v ∧ ∃ m, w'' = w.drewN m :=
  h.mono fun _ _ ⟨he, m, hm⟩ => ⟨he, n + m, by rw [hm, World.drewN_drewN]⟩
theorem Cu.other {lo t : Nat} {w w' : World} {C X : Nat} {l : List UInt8} {k : Nat} {e : Int} (h : Cu lo t w C l k e) (hg : w.grownBy w' (some X)) (hX : lo ≤ X) (hne : X ≠ C) : Cu lo t w' C l k e :=
  h.grown hg fun g e => by injection e with e; subst e; exact ⟨hX, hne⟩
theorem below_lo {lo X : Nat} {w w' : World} (hg : w.grownBy w' (some X)) (hX : lo ≤ X) (hlo : lo ≤ w.heap.size) : Below lo w w' :=
  (Below.refl lo w).grown hg hlo fun k e => by injection e with e; omega

set_option maxRecDepth 100000 in
set_option maxHeartbeats 4000000 in
theorem get_any {lo C I : Nat} {l : List UInt8} {k : Nat} {e : Int} {w : World} (o : Pk.Od) (ho : o.ok) (hC : Cu lo 75 w C l k e) (hI : Cu lo 42 w I l k e) (hne : C ≠ I) :
    Calls Try.prog 19 #[.pointer (some ⟨C, 0, none⟩), .pointer (some ⟨I, 0, none⟩), Pk.odv o] w fun x w' => x = .returned (.bool true) ∧ (∃ k' e', Cu lo 75 w' C l k' e' ∧ Cu lo 42 w' I l k' e') ∧ Below lo w w' := by
  have hclt := hC.lt
  have hclo := hC.lo_le
  have hilo := hI.lo_le
  have hlt := Pk.aro_lt o.d (k := 7) (by omega)
  have HAR := Lib.hid (fun W : World => aro_is o.d 7 W ho.1 ho.2.1 (by omega) (by omega))
  rw [show ((7 : Nat) : Int) = 7 from rfl] at HAR
  obtain ⟨r, hr⟩ : ∃ r, r = Pk.aro o.d 7 := ⟨_, rfl⟩
  rw [← hr] at HAR hlt
  have h7 : r = 4 ∨ r = 5 ∨ r = 6 ∨ r = 2 ∨ r = 3 ∨ r = 0 ∨ r = 1 := by omega
  have HC := Lib.hid (hC.alloc (.cells #[.int .i64 o.d, .int .i64 o.n, .string o.s] 29))
  have HI := Lib.hid (hI.alloc (.cells #[.int .i64 o.d, .int .i64 o.n, .string o.s] 29))
  have HB := Lib.hid (show Below lo w (w.alloc (.cells #[.int .i64 o.d, .int .i64 o.n, .string o.s] 29)) from (Below.refl lo w).alloc (by omega) _)
  have HLO := Lib.hid (And.intro hclo (And.intro hilo (And.intro hne hclt)))
  clear hr hlt hC hI ho hclo hilo hclt
  unfold Pk.odv
  rcases h7 with rfl | rfl | rfl | rfl | rfl | rfl | rfl
  · have hi := in_num HC.out
    have hr := fun (W : World) (h : Cu lo 42 W I l k e) => rnum_any h
    obtain ⟨q, hq⟩ : ∃ q, q = Pk.stp 0 e (Pk.pNum (l.drop k)) := ⟨_, rfl⟩
    rw [← hq] at hi
    simp only [← hq] at hr
    obtain ⟨v, hv⟩ : ∃ v, v = q.v := ⟨_, rfl⟩
    rw [← hv] at hi
    simp only [← hv] at hr
    have HIN := Lib.hid hi
    have HRF := Lib.hid hr
    clear hi hr hq hv
    go_enter Try.func19, Try.ntmps19
    go_wp2_with fail
    refine (HAR.out _).mono ?_
    rintro x w1 ⟨rfl, rfl⟩
    go_wp2_with fail
    refine (HIN.out).mono ?_
    rintro x w1 ⟨rfl, hcu, hg⟩
    have HR := Lib.hid (HRF.out w1 (HI.out.other hg HLO.out.1 HLO.out.2.2.1))
    have HC1 := Lib.hid hcu
    have HB1 := Lib.hid (HB.out.trans (below_lo hg HLO.out.1 (by have := HB.out.size; have := HLO.out.1; have := HLO.out.2.2.2; omega)))
    clear hcu hg HRF HIN HC HI HB
    unfold u64v
    go_wp2_with fail
    refine (HR.out).mono ?_
    rintro x w2 ⟨rfl, hcu, hg⟩
    have hcu1 := HC1.out.other hg HLO.out.2.1 (fun h => HLO.out.2.2.1 h.symm)
    have hB2 := HB1.out.trans (below_lo hg HLO.out.2.1 (by have := HB1.out.size; have := HLO.out.1; have := HLO.out.2.2.2; omega))
    obtain ⟨k2, hk2⟩ : ∃ k2, k2 = k + q.n := ⟨_, rfl⟩
    rw [← hk2] at hcu hcu1
    have HFIN := Lib.hid (fun n : Nat => (show (∃ k' e', Cu lo 75 (w2.drewN n) C l k' e' ∧ Cu lo 42 (w2.drewN n) I l k' e') ∧ Below lo w (w2.drewN n) from ⟨⟨k2, q.e, hcu1.drew n, hcu.drew n⟩, below_to_drewN' hB2 n⟩))
    have HLF := Lib.hid (fun n : Nat => in_left (hcu1.drew n))
    have HER := Lib.hid (fun n : Nat => in_err (hcu1.drew n))
    have HEN := Lib.hid (fun n : Nat => in_end (hcu1.drew n))
    have HRE := Lib.hid (fun n : Nat => rend_any (hcu.drew n))
    obtain ⟨A, cc, i0, i1, i2, _⟩ := hcu.all
    have hpl := hcu.place
    obtain ⟨m, hm⟩ : ∃ m, m = l.length := ⟨_, rfl⟩
    rw [← hm] at HLF HEN HRE i0 hpl
    obtain ⟨rr, hrr⟩ : ∃ rr, rr = m - k2 := ⟨_, rfl⟩
    rw [← hrr] at HLF
    have hsub : (m : Int) - (k2 : Int) = (rr : Int) := by omega
    obtain ⟨en, hen⟩ : ∃ en, en = endd m k2 q.e := ⟨_, rfl⟩
    rw [← hen] at HEN HRE
    obtain ⟨qe, hqe⟩ : ∃ qe, qe = q.e := ⟨_, rfl⟩
    rw [← hqe] at HER i2
    have hkb : k2 ≤ 1000000 := by omega
    have hmb : m ≤ 1000000 := by omega
    clear hcu hg hcu1 hB2 HC1 HB1 HR hk2 hm hrr hen hqe hpl
    unfold u64v
    go_wp2_with fail
    go_quiet ((first
      | (go_at_call 28; exact quiet_step_of (HLF.out _))
      | (go_at_call 29; exact Calls.quiet_of_same ((HER.out _).mono fun _ _ h => ⟨h.1, h.2.symm⟩))
      | (go_at_call 30; exact quiet_step_of (HEN.out _))
      | (go_at_call 47; exact quiet_step_of (HRE.out _))))
    go_wp2
    go_ret
    exact ⟨rfl, (HFIN.out _).1, (HFIN.out _).2⟩
  · have hi := in_name HC.out
    have hr := fun (W : World) (h : Cu lo 42 W I l k e) => rname_any h
    obtain ⟨q, hq⟩ : ∃ q, q = Pk.stp ⟨0, 0, 0⟩ e (Pk.pName (l.drop k)) := ⟨_, rfl⟩
    rw [← hq] at hi
    simp only [← hq] at hr
    obtain ⟨v, hv⟩ : ∃ v, v = q.v := ⟨_, rfl⟩
    rw [← hv] at hi
    simp only [← hv] at hr
    have HIN := Lib.hid hi
    have HRF := Lib.hid hr
    clear hi hr hq hv
    go_enter Try.func19, Try.ntmps19
    go_wp2_with fail
    refine (HAR.out _).mono ?_
    rintro x w1 ⟨rfl, rfl⟩
    go_wp2_with fail
    refine (HIN.out).mono ?_
    rintro x w1 ⟨rfl, hcu, hg⟩
    have HR := Lib.hid (HRF.out w1 (HI.out.other hg HLO.out.1 HLO.out.2.2.1))
    have HC1 := Lib.hid hcu
    have HB1 := Lib.hid (HB.out.trans (below_lo hg HLO.out.1 (by have := HB.out.size; have := HLO.out.1; have := HLO.out.2.2.2; omega)))
    clear hcu hg HRF HIN HC HI HB
    unfold nmv
    go_wp2_with fail
    refine (HR.out).mono ?_
    rintro x w2 ⟨rfl, hcu, hg⟩
    have hcu1 := HC1.out.other hg HLO.out.2.1 (fun h => HLO.out.2.2.1 h.symm)
    have hB2 := HB1.out.trans (below_lo hg HLO.out.2.1 (by have := HB1.out.size; have := HLO.out.1; have := HLO.out.2.2.2; omega))
    obtain ⟨k2, hk2⟩ : ∃ k2, k2 = k + q.n := ⟨_, rfl⟩
    rw [← hk2] at hcu hcu1
    have HFIN := Lib.hid (fun n : Nat => (show (∃ k' e', Cu lo 75 (w2.drewN n) C l k' e' ∧ Cu lo 42 (w2.drewN n) I l k' e') ∧ Below lo w (w2.drewN n) from ⟨⟨k2, q.e, hcu1.drew n, hcu.drew n⟩, below_to_drewN' hB2 n⟩))
    have HLF := Lib.hid (fun n : Nat => in_left (hcu1.drew n))
    have HER := Lib.hid (fun n : Nat => in_err (hcu1.drew n))
    have HEN := Lib.hid (fun n : Nat => in_end (hcu1.drew n))
    have HRE := Lib.hid (fun n : Nat => rend_any (hcu.drew n))
    obtain ⟨A, cc, i0, i1, i2, _⟩ := hcu.all
    have hpl := hcu.place
    obtain ⟨m, hm⟩ : ∃ m, m = l.length := ⟨_, rfl⟩
    rw [← hm] at HLF HEN HRE i0 hpl
    obtain ⟨rr, hrr⟩ : ∃ rr, rr = m - k2 := ⟨_, rfl⟩
    rw [← hrr] at HLF
    have hsub : (m : Int) - (k2 : Int) = (rr : Int) := by omega
    obtain ⟨en, hen⟩ : ∃ en, en = endd m k2 q.e := ⟨_, rfl⟩
    rw [← hen] at HEN HRE
    obtain ⟨qe, hqe⟩ : ∃ qe, qe = q.e := ⟨_, rfl⟩
    rw [← hqe] at HER i2
    have hkb : k2 ≤ 1000000 := by omega
    have hmb : m ≤ 1000000 := by omega
    clear hcu hg hcu1 hB2 HC1 HB1 HR hk2 hm hrr hen hqe hpl
    unfold nmv
    go_wp2_with fail
    go_quiet ((first
      | (go_at_call 28; exact quiet_step_of (HLF.out _))
      | (go_at_call 29; exact Calls.quiet_of_same ((HER.out _).mono fun _ _ h => ⟨h.1, h.2.symm⟩))
      | (go_at_call 30; exact quiet_step_of (HEN.out _))
      | (go_at_call 47; exact quiet_step_of (HRE.out _))))
    go_wp2
    go_ret
    exact ⟨rfl, (HFIN.out _).1, (HFIN.out _).2⟩
  · have hi := in_many 20 (by omega) (by omega) HC.out
    have hr := fun (W : World) (h : Cu lo 42 W I l k e) => rmany_any 20 h
    obtain ⟨q, hq⟩ : ∃ q, q = Pk.stp 0 e (Pk.pMany 20 (l.drop k)) := ⟨_, rfl⟩
    rw [← hq] at hi
    simp only [← hq] at hr
    obtain ⟨v, hv⟩ : ∃ v, v = q.v := ⟨_, rfl⟩
    rw [← hv] at hi
    simp only [← hv] at hr
    have HIN := Lib.hid hi
    have HRF := Lib.hid hr
    clear hi hr hq hv
    go_enter Try.func19, Try.ntmps19
    go_wp2_with fail
    refine (HAR.out _).mono ?_
    rintro x w1 ⟨rfl, rfl⟩
    go_wp2_with fail
    refine (HIN.out).mono ?_
    rintro x w1 ⟨rfl, hcu, hg⟩
    have HR := Lib.hid (HRF.out w1 (HI.out.other hg HLO.out.1 HLO.out.2.2.1))
    have HC1 := Lib.hid hcu
    have HB1 := Lib.hid (HB.out.trans (below_lo hg HLO.out.1 (by have := HB.out.size; have := HLO.out.1; have := HLO.out.2.2.2; omega)))
    clear hcu hg HRF HIN HC HI HB
    unfold i64v
    go_wp2_with fail
    refine (HR.out).mono ?_
    rintro x w2 ⟨rfl, hcu, hg⟩
    have hcu1 := HC1.out.other hg HLO.out.2.1 (fun h => HLO.out.2.2.1 h.symm)
    have hB2 := HB1.out.trans (below_lo hg HLO.out.2.1 (by have := HB1.out.size; have := HLO.out.1; have := HLO.out.2.2.2; omega))
    obtain ⟨k2, hk2⟩ : ∃ k2, k2 = k + q.n := ⟨_, rfl⟩
    rw [← hk2] at hcu hcu1
    have HFIN := Lib.hid (fun n : Nat => (show (∃ k' e', Cu lo 75 (w2.drewN n) C l k' e' ∧ Cu lo 42 (w2.drewN n) I l k' e') ∧ Below lo w (w2.drewN n) from ⟨⟨k2, q.e, hcu1.drew n, hcu.drew n⟩, below_to_drewN' hB2 n⟩))
    have HLF := Lib.hid (fun n : Nat => in_left (hcu1.drew n))
    have HER := Lib.hid (fun n : Nat => in_err (hcu1.drew n))
    have HEN := Lib.hid (fun n : Nat => in_end (hcu1.drew n))
    have HRE := Lib.hid (fun n : Nat => rend_any (hcu.drew n))
    obtain ⟨A, cc, i0, i1, i2, _⟩ := hcu.all
    have hpl := hcu.place
    obtain ⟨m, hm⟩ : ∃ m, m = l.length := ⟨_, rfl⟩
    rw [← hm] at HLF HEN HRE i0 hpl
    obtain ⟨rr, hrr⟩ : ∃ rr, rr = m - k2 := ⟨_, rfl⟩
    rw [← hrr] at HLF
    have hsub : (m : Int) - (k2 : Int) = (rr : Int) := by omega
    obtain ⟨en, hen⟩ : ∃ en, en = endd m k2 q.e := ⟨_, rfl⟩
    rw [← hen] at HEN HRE
    obtain ⟨qe, hqe⟩ : ∃ qe, qe = q.e := ⟨_, rfl⟩
    rw [← hqe] at HER i2
    have hkb : k2 ≤ 1000000 := by omega
    have hmb : m ≤ 1000000 := by omega
    clear hcu hg hcu1 hB2 HC1 HB1 HR hk2 hm hrr hen hqe hpl
    unfold i64v
    go_wp2_with fail
    go_quiet ((first
      | (go_at_call 28; exact quiet_step_of (HLF.out _))
      | (go_at_call 29; exact Calls.quiet_of_same ((HER.out _).mono fun _ _ h => ⟨h.1, h.2.symm⟩))
      | (go_at_call 30; exact quiet_step_of (HEN.out _))
      | (go_at_call 47; exact quiet_step_of (HRE.out _))))
    go_wp2
    go_ret
    exact ⟨rfl, (HFIN.out _).1, (HFIN.out _).2⟩
  · have hi := in_text HC.out
    have hr := fun (W : World) (h : Cu lo 42 W I l k e) => rtext_any h
    obtain ⟨q, hq⟩ : ∃ q, q = Pk.stp [] e (Pk.pText (l.drop k)) := ⟨_, rfl⟩
    rw [← hq] at hi
    simp only [← hq] at hr
    obtain ⟨v, hv⟩ : ∃ v, v = q.v := ⟨_, rfl⟩
    rw [← hv] at hi
    simp only [← hv] at hr
    have HIN := Lib.hid hi
    have HRF := Lib.hid hr
    clear hi hr hq hv
    go_enter Try.func19, Try.ntmps19
    go_wp2_with fail
    refine (HAR.out _).mono ?_
    rintro x w1 ⟨rfl, rfl⟩
    go_wp2_with fail
    refine (HIN.out).mono ?_
    rintro x w1 ⟨rfl, hcu, hg⟩
    have HR := Lib.hid (HRF.out w1 (HI.out.other hg HLO.out.1 HLO.out.2.2.1))
    have HC1 := Lib.hid hcu
    have HB1 := Lib.hid (HB.out.trans (below_lo hg HLO.out.1 (by have := HB.out.size; have := HLO.out.1; have := HLO.out.2.2.2; omega)))
    clear hcu hg HRF HIN HC HI HB
    unfold strv
    go_wp2_with fail
    refine (HR.out).mono ?_
    rintro x w2 ⟨rfl, hcu, hg⟩
    have hcu1 := HC1.out.other hg HLO.out.2.1 (fun h => HLO.out.2.2.1 h.symm)
    have hB2 := HB1.out.trans (below_lo hg HLO.out.2.1 (by have := HB1.out.size; have := HLO.out.1; have := HLO.out.2.2.2; omega))
    obtain ⟨k2, hk2⟩ : ∃ k2, k2 = k + q.n := ⟨_, rfl⟩
    rw [← hk2] at hcu hcu1
    have HFIN := Lib.hid (fun n : Nat => (show (∃ k' e', Cu lo 75 (w2.drewN n) C l k' e' ∧ Cu lo 42 (w2.drewN n) I l k' e') ∧ Below lo w (w2.drewN n) from ⟨⟨k2, q.e, hcu1.drew n, hcu.drew n⟩, below_to_drewN' hB2 n⟩))
    have HLF := Lib.hid (fun n : Nat => in_left (hcu1.drew n))
    have HER := Lib.hid (fun n : Nat => in_err (hcu1.drew n))
    have HEN := Lib.hid (fun n : Nat => in_end (hcu1.drew n))
    have HRE := Lib.hid (fun n : Nat => rend_any (hcu.drew n))
    obtain ⟨A, cc, i0, i1, i2, _⟩ := hcu.all
    have hpl := hcu.place
    obtain ⟨m, hm⟩ : ∃ m, m = l.length := ⟨_, rfl⟩
    rw [← hm] at HLF HEN HRE i0 hpl
    obtain ⟨rr, hrr⟩ : ∃ rr, rr = m - k2 := ⟨_, rfl⟩
    rw [← hrr] at HLF
    have hsub : (m : Int) - (k2 : Int) = (rr : Int) := by omega
    obtain ⟨en, hen⟩ : ∃ en, en = endd m k2 q.e := ⟨_, rfl⟩
    rw [← hen] at HEN HRE
    obtain ⟨qe, hqe⟩ : ∃ qe, qe = q.e := ⟨_, rfl⟩
    rw [← hqe] at HER i2
    have hkb : k2 ≤ 1000000 := by omega
    have hmb : m ≤ 1000000 := by omega
    clear hcu hg hcu1 hB2 HC1 HB1 HR hk2 hm hrr hen hqe hpl
    unfold strv
    go_wp2_with fail
    go_quiet ((first
      | (go_at_call 28; exact quiet_step_of (HLF.out _))
      | (go_at_call 29; exact Calls.quiet_of_same ((HER.out _).mono fun _ _ h => ⟨h.1, h.2.symm⟩))
      | (go_at_call 30; exact quiet_step_of (HEN.out _))
      | (go_at_call 47; exact quiet_step_of (HRE.out _))))
    go_wp2
    go_ret
    exact ⟨rfl, (HFIN.out _).1, (HFIN.out _).2⟩
  · have hi := in_bool HC.out
    have hr := fun (W : World) (h : Cu lo 42 W I l k e) => rbool_any h
    obtain ⟨q, hq⟩ : ∃ q, q = Pk.stp false e (Pk.pBool (l.drop k)) := ⟨_, rfl⟩
    rw [← hq] at hi
    simp only [← hq] at hr
    obtain ⟨v, hv⟩ : ∃ v, v = q.v := ⟨_, rfl⟩
    rw [← hv] at hi
    simp only [← hv] at hr
    have HIN := Lib.hid hi
    have HRF := Lib.hid hr
    clear hi hr hq hv
    go_enter Try.func19, Try.ntmps19
    go_wp2_with fail
    refine (HAR.out _).mono ?_
    rintro x w1 ⟨rfl, rfl⟩
    go_wp2_with fail
    refine (HIN.out).mono ?_
    rintro x w1 ⟨rfl, hcu, hg⟩
    have HR := Lib.hid (HRF.out w1 (HI.out.other hg HLO.out.1 HLO.out.2.2.1))
    have HC1 := Lib.hid hcu
    have HB1 := Lib.hid (HB.out.trans (below_lo hg HLO.out.1 (by have := HB.out.size; have := HLO.out.1; have := HLO.out.2.2.2; omega)))
    clear hcu hg HRF HIN HC HI HB
    go_wp2_with fail
    refine (HR.out).mono ?_
    rintro x w2 ⟨rfl, hcu, hg⟩
    have hcu1 := HC1.out.other hg HLO.out.2.1 (fun h => HLO.out.2.2.1 h.symm)
    have hB2 := HB1.out.trans (below_lo hg HLO.out.2.1 (by have := HB1.out.size; have := HLO.out.1; have := HLO.out.2.2.2; omega))
    obtain ⟨k2, hk2⟩ : ∃ k2, k2 = k + q.n := ⟨_, rfl⟩
    rw [← hk2] at hcu hcu1
    have HFIN := Lib.hid (fun n : Nat => (show (∃ k' e', Cu lo 75 (w2.drewN n) C l k' e' ∧ Cu lo 42 (w2.drewN n) I l k' e') ∧ Below lo w (w2.drewN n) from ⟨⟨k2, q.e, hcu1.drew n, hcu.drew n⟩, below_to_drewN' hB2 n⟩))
    have HLF := Lib.hid (fun n : Nat => in_left (hcu1.drew n))
    have HER := Lib.hid (fun n : Nat => in_err (hcu1.drew n))
    have HEN := Lib.hid (fun n : Nat => in_end (hcu1.drew n))
    have HRE := Lib.hid (fun n : Nat => rend_any (hcu.drew n))
    obtain ⟨A, cc, i0, i1, i2, _⟩ := hcu.all
    have hpl := hcu.place
    obtain ⟨m, hm⟩ : ∃ m, m = l.length := ⟨_, rfl⟩
    rw [← hm] at HLF HEN HRE i0 hpl
    obtain ⟨rr, hrr⟩ : ∃ rr, rr = m - k2 := ⟨_, rfl⟩
    rw [← hrr] at HLF
    have hsub : (m : Int) - (k2 : Int) = (rr : Int) := by omega
    obtain ⟨en, hen⟩ : ∃ en, en = endd m k2 q.e := ⟨_, rfl⟩
    rw [← hen] at HEN HRE
    obtain ⟨qe, hqe⟩ : ∃ qe, qe = q.e := ⟨_, rfl⟩
    rw [← hqe] at HER i2
    have hkb : k2 ≤ 1000000 := by omega
    have hmb : m ≤ 1000000 := by omega
    clear hcu hg hcu1 hB2 HC1 HB1 HR hk2 hm hrr hen hqe hpl
    go_wp2_with fail
    go_quiet ((first
      | (go_at_call 28; exact quiet_step_of (HLF.out _))
      | (go_at_call 29; exact Calls.quiet_of_same ((HER.out _).mono fun _ _ h => ⟨h.1, h.2.symm⟩))
      | (go_at_call 30; exact quiet_step_of (HEN.out _))
      | (go_at_call 47; exact quiet_step_of (HRE.out _))))
    go_wp2
    go_ret
    exact ⟨rfl, (HFIN.out _).1, (HFIN.out _).2⟩
  · have hi := in_int HC.out
    have hr := fun (W : World) (h : Cu lo 42 W I l k e) => rint_any h
    obtain ⟨q, hq⟩ : ∃ q, q = Pk.stp 0 e (Pk.pInt (l.drop k)) := ⟨_, rfl⟩
    rw [← hq] at hi
    simp only [← hq] at hr
    obtain ⟨v, hv⟩ : ∃ v, v = q.v := ⟨_, rfl⟩
    rw [← hv] at hi
    simp only [← hv] at hr
    have HIN := Lib.hid hi
    have HRF := Lib.hid hr
    clear hi hr hq hv
    go_enter Try.func19, Try.ntmps19
    go_wp2_with fail
    refine (HAR.out _).mono ?_
    rintro x w1 ⟨rfl, rfl⟩
    go_wp2_with fail
    refine (HIN.out).mono ?_
    rintro x w1 ⟨rfl, hcu, hg⟩
    have HR := Lib.hid (HRF.out w1 (HI.out.other hg HLO.out.1 HLO.out.2.2.1))
    have HC1 := Lib.hid hcu
    have HB1 := Lib.hid (HB.out.trans (below_lo hg HLO.out.1 (by have := HB.out.size; have := HLO.out.1; have := HLO.out.2.2.2; omega)))
    clear hcu hg HRF HIN HC HI HB
    unfold i64v
    go_wp2_with fail
    refine (HR.out).mono ?_
    rintro x w2 ⟨rfl, hcu, hg⟩
    have hcu1 := HC1.out.other hg HLO.out.2.1 (fun h => HLO.out.2.2.1 h.symm)
    have hB2 := HB1.out.trans (below_lo hg HLO.out.2.1 (by have := HB1.out.size; have := HLO.out.1; have := HLO.out.2.2.2; omega))
    obtain ⟨k2, hk2⟩ : ∃ k2, k2 = k + q.n := ⟨_, rfl⟩
    rw [← hk2] at hcu hcu1
    have HFIN := Lib.hid (fun n : Nat => (show (∃ k' e', Cu lo 75 (w2.drewN n) C l k' e' ∧ Cu lo 42 (w2.drewN n) I l k' e') ∧ Below lo w (w2.drewN n) from ⟨⟨k2, q.e, hcu1.drew n, hcu.drew n⟩, below_to_drewN' hB2 n⟩))
    have HLF := Lib.hid (fun n : Nat => in_left (hcu1.drew n))
    have HER := Lib.hid (fun n : Nat => in_err (hcu1.drew n))
    have HEN := Lib.hid (fun n : Nat => in_end (hcu1.drew n))
    have HRE := Lib.hid (fun n : Nat => rend_any (hcu.drew n))
    obtain ⟨A, cc, i0, i1, i2, _⟩ := hcu.all
    have hpl := hcu.place
    obtain ⟨m, hm⟩ : ∃ m, m = l.length := ⟨_, rfl⟩
    rw [← hm] at HLF HEN HRE i0 hpl
    obtain ⟨rr, hrr⟩ : ∃ rr, rr = m - k2 := ⟨_, rfl⟩
    rw [← hrr] at HLF
    have hsub : (m : Int) - (k2 : Int) = (rr : Int) := by omega
    obtain ⟨en, hen⟩ : ∃ en, en = endd m k2 q.e := ⟨_, rfl⟩
    rw [← hen] at HEN HRE
    obtain ⟨qe, hqe⟩ : ∃ qe, qe = q.e := ⟨_, rfl⟩
    rw [← hqe] at HER i2
    have hkb : k2 ≤ 1000000 := by omega
    have hmb : m ≤ 1000000 := by omega
    clear hcu hg hcu1 hB2 HC1 HB1 HR hk2 hm hrr hen hqe hpl
    unfold i64v
    go_wp2_with fail
    go_quiet ((first
      | (go_at_call 28; exact quiet_step_of (HLF.out _))
      | (go_at_call 29; exact Calls.quiet_of_same ((HER.out _).mono fun _ _ h => ⟨h.1, h.2.symm⟩))
      | (go_at_call 30; exact quiet_step_of (HEN.out _))
      | (go_at_call 47; exact quiet_step_of (HRE.out _))))
    go_wp2
    go_ret
    exact ⟨rfl, (HFIN.out _).1, (HFIN.out _).2⟩
  · have hi := in_int HC.out
    have hr := fun (W : World) (h : Cu lo 42 W I l k e) => rint_any h
    obtain ⟨q, hq⟩ : ∃ q, q = Pk.stp 0 e (Pk.pInt (l.drop k)) := ⟨_, rfl⟩
    rw [← hq] at hi
    simp only [← hq] at hr
    obtain ⟨v, hv⟩ : ∃ v, v = q.v := ⟨_, rfl⟩
    rw [← hv] at hi
    simp only [← hv] at hr
    have HIN := Lib.hid hi
    have HRF := Lib.hid hr
    clear hi hr hq hv
    go_enter Try.func19, Try.ntmps19
    go_wp2_with fail
    refine (HAR.out _).mono ?_
    rintro x w1 ⟨rfl, rfl⟩
    go_wp2_with fail
    refine (HIN.out).mono ?_
    rintro x w1 ⟨rfl, hcu, hg⟩
    have HR := Lib.hid (HRF.out w1 (HI.out.other hg HLO.out.1 HLO.out.2.2.1))
    have HC1 := Lib.hid hcu
    have HB1 := Lib.hid (HB.out.trans (below_lo hg HLO.out.1 (by have := HB.out.size; have := HLO.out.1; have := HLO.out.2.2.2; omega)))
    clear hcu hg HRF HIN HC HI HB
    unfold i64v
    go_wp2_with fail
    refine (HR.out).mono ?_
    rintro x w2 ⟨rfl, hcu, hg⟩
    have hcu1 := HC1.out.other hg HLO.out.2.1 (fun h => HLO.out.2.2.1 h.symm)
    have hB2 := HB1.out.trans (below_lo hg HLO.out.2.1 (by have := HB1.out.size; have := HLO.out.1; have := HLO.out.2.2.2; omega))
    obtain ⟨k2, hk2⟩ : ∃ k2, k2 = k + q.n := ⟨_, rfl⟩
    rw [← hk2] at hcu hcu1
    have HFIN := Lib.hid (fun n : Nat => (show (∃ k' e', Cu lo 75 (w2.drewN n) C l k' e' ∧ Cu lo 42 (w2.drewN n) I l k' e') ∧ Below lo w (w2.drewN n) from ⟨⟨k2, q.e, hcu1.drew n, hcu.drew n⟩, below_to_drewN' hB2 n⟩))
    have HLF := Lib.hid (fun n : Nat => in_left (hcu1.drew n))
    have HER := Lib.hid (fun n : Nat => in_err (hcu1.drew n))
    have HEN := Lib.hid (fun n : Nat => in_end (hcu1.drew n))
    have HRE := Lib.hid (fun n : Nat => rend_any (hcu.drew n))
    obtain ⟨A, cc, i0, i1, i2, _⟩ := hcu.all
    have hpl := hcu.place
    obtain ⟨m, hm⟩ : ∃ m, m = l.length := ⟨_, rfl⟩
    rw [← hm] at HLF HEN HRE i0 hpl
    obtain ⟨rr, hrr⟩ : ∃ rr, rr = m - k2 := ⟨_, rfl⟩
    rw [← hrr] at HLF
    have hsub : (m : Int) - (k2 : Int) = (rr : Int) := by omega
    obtain ⟨en, hen⟩ : ∃ en, en = endd m k2 q.e := ⟨_, rfl⟩
    rw [← hen] at HEN HRE
    obtain ⟨qe, hqe⟩ : ∃ qe, qe = q.e := ⟨_, rfl⟩
    rw [← hqe] at HER i2
    have hkb : k2 ≤ 1000000 := by omega
    have hmb : m ≤ 1000000 := by omega
    clear hcu hg hcu1 hB2 HC1 HB1 HR hk2 hm hrr hen hqe hpl
    unfold i64v
    go_wp2_with fail
    go_quiet ((first
      | (go_at_call 28; exact quiet_step_of (HLF.out _))
      | (go_at_call 29; exact Calls.quiet_of_same ((HER.out _).mono fun _ _ h => ⟨h.1, h.2.symm⟩))
      | (go_at_call 30; exact quiet_step_of (HEN.out _))
      | (go_at_call 47; exact quiet_step_of (HRE.out _))))
    go_wp2
    go_ret
    exact ⟨rfl, (HFIN.out _).1, (HFIN.out _).2⟩

end Go.Proofs.Ytjpdlnemkhofmaa
