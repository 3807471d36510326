/-
  The chapter's answer on reading numbers: a number without a sign. For up to a million bytes.
-/
import Derived.Test.YtjpdlnemkhofmaaRfk
namespace Go.Proofs.Ytjpdlnemkhofmaa
open Go.RowKit
attribute [local go_sem ↓] Go.wp_at_zero Go.wp_at_succ

/-- All cells of a cursor. -/
theorem Cu.all {lo t : Nat} {w : World} {C : Nat} {l : List UInt8} {k : Nat} {e : Int} (h : Cu lo t w C l k e) : ∃ A c, w.cell? ⟨C, 0, none⟩ = some (.slice A l.length c) ∧ w.cell? ⟨C, 1, none⟩ = some (.int .i64 (k : Int)) ∧ w.cell? ⟨C, 2, none⟩ = some (.int .i64 e) ∧
    w.frozen? ⟨C, 1, none⟩ = false ∧ w.frozen? ⟨C, 2, none⟩ = false ∧ Rd lo w A (u8s l) ∧ l.length ≤ c := by
  obtain ⟨A, c, hC, hA, _, _, h3, _⟩ := h
  exact ⟨A, c, hC.cell 0, hC.cell 1, hC.cell 2, hC.frozen 1, hC.frozen 2, hA, h3⟩
theorem Cu.wrongs {lo t : Nat} {w : World} {C : Nat} {l : List UInt8} {k : Nat} {e : Int} (h : Cu lo t w C l k e) (z : Int) : Cu lo t (w.setCell ⟨C, 2, none⟩ (.int .i64 z)) C l k z ∧ w.grownBy (w.setCell ⟨C, 2, none⟩ (.int .i64 z)) (some C) := by
  obtain ⟨A, c, hC, hA, h1, h2, h3⟩ := h
  exact ⟨⟨A, c, hC.set_ 2 _, hA.only (only_set (only_refl _ _) 2 _) h1, h1, h2, h3⟩, only_set (only_refl _ _) 2 _⟩
theorem Cu.moved {lo t : Nat} {w : World} {C : Nat} {l : List UInt8} {k k' : Nat} {e : Int} (h : Cu lo t w C l k e) (hk : k' ≤ l.length) : Cu lo t (w.setCell ⟨C, 1, none⟩ (.int .i64 (k' : Int))) C l k' e ∧ w.grownBy (w.setCell ⟨C, 1, none⟩ (.int .i64 (k' : Int))) (some C) :=
  ⟨h.back hk, only_set (only_refl _ _) 1 _⟩

theorem rnum_bad {lo C : Nat} {l : List UInt8} {k : Nat} {e : Int} {w : World} (he : e ≠ 0) (h : Cu lo 42 w C l k e) :
    Calls Try.prog 42 #[.pointer (some ⟨C, 0, none⟩)] w fun x w' => x = .returned (.int .u64 0) ∧ w = w' := by
  obtain ⟨A, c, c0, c1, c2, f1, f2, _⟩ := h.all
  have he1 : (e != 0) = true := by rw [bne_iff_ne]; exact he
  clear h he c0 c1 f1 f2
  go_enter Try.func42, Try.ntmps42
  go_wp2
  go_ret
  exact ⟨rfl, rfl⟩

theorem rd_some {lo : Nat} {w : World} {A : Option Addr} {l : List UInt8} (h : Rd lo w A (u8s l)) {j : Nat} (hj : j < l.length) : ∃ b off, A = some ⟨b, off, none⟩ := by
  obtain ⟨b, off, e, _⟩ := rd_at h j hj
  exact ⟨b, off, e⟩
/-- What the answer asks of the tenth byte: is it too much? -/
def TooMuch (L : List UInt8) (s : Nat) : Prop := 10 < s ∨ (s = 10 ∧ 1 < (L.getD 9 0).toNat)
theorem getD_drop (l : List UInt8) (k i : Nat) (h : k + i < l.length) : (l.drop k).getD i 0 = l[k + i] := by
  rw [List.getD_eq_getElem?_getD, List.getElem?_drop, List.getElem?_eq_getElem h]; rfl
theorem tenth {lo : Nat} {l : List UInt8} {k s : Nat} {w : World} {A : Option Addr} (hA : Rd lo w A (u8s l)) (hs : s ≤ l.length - k) (hk : k ≤ l.length) :
    (TooMuch (l.drop k) s ∧ (decide ((10 : Int) < (s : Int)) = true ∨ (∃ p d : Nat, (k : Int) + 9 = (p : Int) ∧ p < l.length ∧ (∀ b off, A = some ⟨b, off, none⟩ → w.cell? ⟨b, off + p, none⟩ = some (.int .u8 (d : Int))) ∧ d < 256 ∧ decide ((10 : Int) < (s : Int)) = false ∧ ((s : Int) == 10) = true ∧ decide ((1 : Int) < (d : Int)) = true))) ∨
    (¬ TooMuch (l.drop k) s ∧ ((decide ((10 : Int) < (s : Int)) = false ∧ ((s : Int) == 10) = false) ∨ (∃ p d : Nat, (k : Int) + 9 = (p : Int) ∧ p < l.length ∧ (∀ b off, A = some ⟨b, off, none⟩ → w.cell? ⟨b, off + p, none⟩ = some (.int .u8 (d : Int))) ∧ d < 256 ∧ decide ((10 : Int) < (s : Int)) = false ∧ ((s : Int) == 10) = true ∧ decide ((1 : Int) < (d : Int)) = false))) := by
  by_cases h10 : 10 < s
  · exact .inl ⟨.inl h10, .inl (decide_eq_true (by omega))⟩
  · have B1 : decide ((10 : Int) < (s : Int)) = false := decide_eq_false (by omega)
    by_cases hs10 : s = 10
    · have B2 : ((s : Int) == 10) = true := by rw [beq_iff_eq]; omega
      have hp : k + 9 < l.length := by omega
      have hg := getD_drop l k 9 hp
      have hb := (l[k + 9]).toNat_lt
      have hcell : ∀ b off, A = some ⟨b, off, none⟩ → w.cell? ⟨b, off + (k + 9), none⟩ = some (.int .u8 (((l[k + 9]).toNat : Nat) : Int)) := by
        intro b off e
        obtain ⟨b', off', e', hc⟩ := rd_at hA (k + 9) hp
        rw [e] at e'
        injection e' with e'
        injection e' with e1 e2
        subst e1 e2
        exact hc
      by_cases h1 : 1 < (l[k + 9]).toNat
      · exact .inl ⟨.inr ⟨hs10, by rw [hg]; exact h1⟩, .inr ⟨k + 9, _, by omega, hp, hcell, hb, B1, B2, decide_eq_true (by omega)⟩⟩
      · exact .inr ⟨fun h => by rcases h with h | ⟨_, h⟩; exact h10 h; rw [hg] at h; exact h1 h, .inr ⟨k + 9, _, by omega, hp, hcell, hb, B1, B2, decide_eq_false (by omega)⟩⟩
    · exact .inr ⟨fun h => by rcases h with h | ⟨h, _⟩; exact h10 h; exact hs10 h, .inl ⟨B1, by rw [beq_eq_false_iff_ne]; omega⟩⟩

theorem cell_of {lo : Nat} {w : World} {b off : Nat} {l : List UInt8} (h : Rd lo w (some ⟨b, off, none⟩) (u8s l)) {j : Nat} (hj : j < l.length) : w.cell? ⟨b, off + j, none⟩ = some (.int .u8 ((l[j]).toNat : Int)) := by
  obtain ⟨b', off', e, hc⟩ := rd_at h j hj
  injection e with e
  injection e with e1 e2
  subst e1 e2
  exact hc
theorem vl_step (L : List UInt8) (f k : Nat) (l : List UInt8) (hL : L = l.drop k) (hf : f < L.length) (t P : Nat) (ht : t < f + 1) (hPl : P < l.length) (hP : P = k + t) :
    Pk.vl ((L.take (f + 1)).drop t) = (l[P]).toNat % 128 + 128 * Pk.vl ((L.take (f + 1)).drop (t + 1)) := by
  have hlen : t < (L.take (f + 1)).length := by rw [List.length_take]; omega
  have e : (L.take (f + 1))[t] = l[P] := by
    subst hL hP
    simp
  rw [drop_one _ t hlen, Pk.vl, e]
set_option maxRecDepth 100000 in
set_option maxHeartbeats 2000000 in
theorem rnum_ok {lo C : Nat} {l : List UInt8} {k : Nat} {w : World} (h : Cu lo 42 w C l k 0) :
    Calls Try.prog 42 #[.pointer (some ⟨C, 0, none⟩)] w fun x w' => x = .returned (.int .u64 ((Pk.pNum (l.drop k)).v : Nat)) ∧ Cu lo 42 w' C l (k + (Pk.pNum (l.drop k)).n) (Pk.pNum (l.drop k)).e ∧ w.grownBy w' (some C) := by
  have hpl := h.place
  have href : Pk.pNum (l.drop k) = Pk.rsev 0 (l.drop k) := Pk.sev_ref _ 0 (by omega)
  rw [href]
  obtain ⟨L, hL⟩ : ∃ L, L = l.drop k := ⟨_, rfl⟩
  have hLl : L.length = l.length - k := by rw [hL, List.length_drop]
  obtain ⟨q, hq⟩ : ∃ q, q = Pk.rsev 0 L := ⟨_, rfl⟩
  obtain ⟨s, hs⟩ : ∃ s, s = Pk.sz L := ⟨_, rfl⟩
  obtain ⟨f, hf⟩ : ∃ f, f = Pk.fi L := ⟨_, rfl⟩
  have hfl := Pk.fi_le L
  have hans : Pk.ans l k = if f = L.length then -1 else ((k + f : Nat) : Int) := by unfold Pk.ans; rw [← hL, ← hf]
  rw [← hL, ← hq]
  have hcu := h
  obtain ⟨A, c, c0, c1, c2, f1, f2, hA, hc⟩ := h.all
  have hsl : s ≤ l.length - k := by
    rw [hs]; unfold Pk.sz; split <;> omega
  have hten := tenth (s := s) (k := k) hA hsl (by omega)
  rw [← hL] at hten
  have hT7 : TooMuch L s → q = ⟨0, 0, 7⟩ := fun hT => by
    rw [hq, Pk.rsev_a]; rw [← hs, Nat.zero_add]; exact hT
  have hTn : ¬ TooMuch L s → ¬ (10 < 0 + Pk.sz L ∨ (0 + Pk.sz L = 10 ∧ 1 < (L.getD (9 - 0) 0).toNat)) := fun hT => by
    rw [← hs, Nat.zero_add]; exact hT
  obtain ⟨m, hm⟩ : ∃ m, m = l.length := ⟨_, rfl⟩
  have hend := fun n : Nat => end_any (c := c) (k := k) (w := w.drewN n) hm (by omega) (by omega) (show Rd lo (w.drewN n) A (u8s l) from hA)
  rw [← hm] at c0
  have HCU := Lib.hid hcu
  have HQ := Lib.hid hq
  by_cases hz : f = L.length
  · rw [if_pos hz] at hans
    have hss : s = l.length - k := by rw [hs]; unfold Pk.sz; rw [if_pos (by omega)]; exact hLl
    have hd1 : (m : Int) - (k : Int) = (s : Int) := by omega
    have hkb : k ≤ 1000000 := by omega
    have hsb : s ≤ 1000000 := by omega
    rw [hans] at hend
    have HE := Lib.hid hend
    rcases hten with ⟨hT, hpk⟩ | ⟨hT, hpk⟩
    · have HR := Lib.hid (hT7 hT)
      rcases hpk with B1 | ⟨p, d, hp, hp2, hcell, hdb, B1, B2, B3⟩
      rotate_left
      · obtain ⟨b, off, rfl⟩ := rd_some hA hp2
        have hc9 := hcell b off rfl
        have hpm : p < m := by omega
        clear hcell hp2
        clear hpl href hL hLl hq hs hf hfl hans hcu h hA hc hm hend hsl hz hss hT7 hTn hT
        go_enter Try.func42, Try.ntmps42
        go_wp2_with fail
        go_quiet ((go_at_call 66; exact Calls.quiet_of_same ((HE.out _).mono fun _ _ h => ⟨h.1, h.2.symm⟩)))
        go_wp2
        go_quiet (fail)
        go_wp2
        go_quiet (fail)
        go_wp2
        go_ret
        exact ⟨by rw [HR.out]; rfl, by rw [HR.out]; exact ((HCU.out.drew _).wrongs 7).1, only_set (only_drewN (only_refl _ _) _) 2 _⟩
      · clear hpl href hL hLl hq hs hf hfl hans hcu h hA hc hm hend hsl hz hss hT7 hTn hT
        go_enter Try.func42, Try.ntmps42
        go_wp2_with fail
        go_quiet ((go_at_call 66; exact Calls.quiet_of_same ((HE.out _).mono fun _ _ h => ⟨h.1, h.2.symm⟩)))
        go_wp2
        go_quiet (fail)
        go_wp2
        go_quiet (fail)
        go_wp2
        go_ret
        exact ⟨by rw [HR.out]; rfl, by rw [HR.out]; exact ((HCU.out.drew _).wrongs 7).1, only_set (only_drewN (only_refl _ _) _) 2 _⟩
    · have hTr := hTn hT
      have HR := Lib.hid (show q = ⟨0, 0, 9⟩ by rw [hq, Pk.rsev_b hTr (by omega)])
      clear hTr
      rcases hpk with ⟨B1, B2⟩ | ⟨p, d, hp, hp2, hcell, hdb, B1, B2, B3⟩
      rotate_left
      · obtain ⟨b, off, rfl⟩ := rd_some hA hp2
        have hc9 := hcell b off rfl
        have hpm : p < m := by omega
        clear hcell hp2
        clear hpl href hL hLl hq hs hf hfl hans hcu h hA hc hm hend hsl hz hss hT7 hTn hT
        go_enter Try.func42, Try.ntmps42
        go_wp2_with fail
        go_quiet ((go_at_call 66; exact Calls.quiet_of_same ((HE.out _).mono fun _ _ h => ⟨h.1, h.2.symm⟩)))
        go_wp2
        go_quiet (fail)
        go_wp2
        go_quiet (fail)
        go_wp2
        go_ret
        exact ⟨by rw [HR.out]; rfl, by rw [HR.out]; exact ((HCU.out.drew _).wrongs 9).1, only_set (only_drewN (only_refl _ _) _) 2 _⟩
      · clear hpl href hL hLl hq hs hf hfl hans hcu h hA hc hm hend hsl hz hss hT7 hTn hT
        go_enter Try.func42, Try.ntmps42
        go_wp2_with fail
        go_quiet ((go_at_call 66; exact Calls.quiet_of_same ((HE.out _).mono fun _ _ h => ⟨h.1, h.2.symm⟩)))
        go_wp2
        go_quiet (fail)
        go_wp2
        go_quiet (fail)
        go_wp2
        go_ret
        exact ⟨by rw [HR.out]; rfl, by rw [HR.out]; exact ((HCU.out.drew _).wrongs 9).1, only_set (only_drewN (only_refl _ _) _) 2 _⟩
  · rw [if_neg hz] at hans
    have hss : s = f + 1 := by rw [hs]; unfold Pk.sz; rw [if_neg (by omega), hf]
    rw [hans] at hend
    obtain ⟨p2, hp2e⟩ : ∃ p2, p2 = k + f := ⟨_, rfl⟩
    rw [← hp2e] at hend
    have HE := Lib.hid hend
    have hd1 : (p2 : Int) - (k : Int) + 1 = (s : Int) := by omega
    have hp2l : p2 < l.length := by omega
    have hp2m : p2 < m := by omega
    have hkb : k ≤ 1000000 := by omega
    have hpb : p2 ≤ 1000000 := by omega
    have hz0 : ¬ (p2 : Int) < 0 := by omega
    obtain ⟨b, off, rfl⟩ := rd_some hA hp2l
    rcases hten with ⟨hT, hpk⟩ | ⟨hT, hpk⟩
    · have HR := Lib.hid (hT7 hT)
      rcases hpk with B1 | ⟨p, d, hp, hp2, hcell, hdb, B1, B2, B3⟩
      rotate_left
      · have hc9 := hcell b off rfl
        have hpm : p < m := by omega
        clear hcell hp2
        clear hp2e hp2l hpl href hL hLl hq hs hf hfl hans hcu h hA hc hm hend hsl hz hss hT7 hTn hT
        go_enter Try.func42, Try.ntmps42
        go_wp2_with fail
        go_quiet ((go_at_call 66; exact Calls.quiet_of_same ((HE.out _).mono fun _ _ h => ⟨h.1, h.2.symm⟩)))
        go_wp2
        go_quiet (fail)
        go_wp2
        go_ret
        exact ⟨by rw [HR.out]; rfl, by rw [HR.out]; exact ((HCU.out.drew _).wrongs 7).1, only_set (only_drewN (only_refl _ _) _) 2 _⟩
      · clear hp2e hp2l hpl href hL hLl hq hs hf hfl hans hcu h hA hc hm hend hsl hz hss hT7 hTn hT
        go_enter Try.func42, Try.ntmps42
        go_wp2_with fail
        go_quiet ((go_at_call 66; exact Calls.quiet_of_same ((HE.out _).mono fun _ _ h => ⟨h.1, h.2.symm⟩)))
        go_wp2
        go_quiet (fail)
        go_wp2
        go_ret
        exact ⟨by rw [HR.out]; rfl, by rw [HR.out]; exact ((HCU.out.drew _).wrongs 7).1, only_set (only_drewN (only_refl _ _) _) 2 _⟩
    · have hTr := hTn hT
      have hcl := cell_of hA hp2l
      have hfe : (L.getD (Pk.fi L) 0).toNat = (l[p2]).toNat := by rw [hL, getD_drop l k _ (by rw [← hL, ← hf]; omega)]; congr 2; rw [← hL, ← hf, ← hp2e]
      obtain ⟨x, hx⟩ : ∃ x, x = (l[p2]).toNat := ⟨_, rfl⟩
      have hxb : x < 256 := by rw [hx]; exact (l[p2]).toNat_lt
      rw [← hx] at hcl hfe
      have hpk' : decide ((10 : Int) < (s : Int)) = false ∧ (((s : Int) == 10) = false ∨ ∃ p d : Nat, (k : Int) + 9 = (p : Int) ∧ p < m ∧ w.cell? ⟨b, off + p, none⟩ = some (.int .u8 (d : Int)) ∧ d < 256 ∧ ((s : Int) == 10) = true ∧ decide ((1 : Int) < (d : Int)) = false) := by
        rcases hpk with ⟨B1, B2⟩ | ⟨p, d, hp, hp2, hcell, hdb, B1, B2, B3⟩
        · exact ⟨B1, .inl B2⟩
        · exact ⟨B1, .inr ⟨p, d, hp, by omega, hcell b off rfl, hdb, B2, B3⟩⟩
      obtain ⟨B1, hpk'⟩ := hpk'
      clear hpk
      by_cases h3 : 1 < s ∧ x = 0
      · have HR := Lib.hid (show q = ⟨0, 0, 7⟩ by rw [hq, Pk.rsev_c hTr (by omega) ⟨by omega, by rw [hfe]; exact h3.2⟩])
        obtain ⟨h31, rfl⟩ := h3
        have B4 : decide ((1 : Int) < (s : Int)) = true := decide_eq_true (by omega)
        clear hTr hfe hx
        rcases hpk' with B2 | ⟨p, d, hp, hpm, hc9, hdb, B2, B3⟩
        all_goals
          clear hpl href hL hLl hq hs hf hfl hans hcu h hA hc hm hend hsl hz hss hT7 hTn hT hp2e hp2l h31
          go_enter Try.func42, Try.ntmps42
          go_wp2_with fail
          go_quiet ((go_at_call 66; exact Calls.quiet_of_same ((HE.out _).mono fun _ _ h => ⟨h.1, h.2.symm⟩)))
          go_wp2
          go_quiet (fail)
          go_wp2
          go_ret
          exact ⟨by rw [HR.out]; rfl, by rw [HR.out]; exact ((HCU.out.drew _).wrongs 7).1, only_set (only_drewN (only_refl _ _) _) 2 _⟩
      · have HR := Lib.hid (show q = ⟨Pk.vl (L.take (f + 1)), f + 1, 0⟩ by rw [hq, Pk.rsev_d hTr (by omega) (by rw [hfe]; omega), hf])
        have hb45 : ∃ b4 b5 : Bool, decide ((1 : Int) < (s : Int)) = b4 ∧ ((x : Int) == 0) = b5 ∧ (b4 = false ∨ (b4 = true ∧ b5 = false)) := by
          refine ⟨_, _, rfl, rfl, ?_⟩
          simp only [decide_eq_false_iff_not, decide_eq_true_eq, beq_eq_false_iff_ne, ne_eq]
          omega
        have HV := Lib.hid (fun t P (ht : t < f + 1) (hPl : P < l.length) (hP : P = k + t) => vl_step L f k l hL (by omega) t P ht hPl hP)
        have hqv : Pk.vl (L.take (f + 1)) < 18446744073709551616 := by
          have := Pk.sev_lt64 (l.drop k)
          have e : (Pk.sev 0 (l.drop k)).v = Pk.vl (L.take (f + 1)) := by
            have h1 : Pk.sev 0 (l.drop k) = Pk.rsev 0 (l.drop k) := href
            rw [h1, ← hL, ← hq, HR.out]
          omega
        obtain ⟨M, hM⟩ : ∃ M, M = L.take (f + 1) := ⟨_, rfl⟩
        rw [← hM] at hqv HR HV
        have HB := Lib.hid (fun t => Nat.lt_of_le_of_lt (Pk.vl_drop M t) hqv)
        have HM0 := Lib.hid (show Pk.vl (M.drop (f + 1)) = 0 by rw [hM, List.drop_eq_nil_of_le (by rw [List.length_take]; omega)]; rfl)
        have HC := Lib.hid (fun (j : Nat) (hj : j < l.length) => cell_of hA hj)
        have HF := Lib.hid (And.intro hm (And.intro hp2e (And.intro hp2l hpl)))
        obtain ⟨b4, b5, B4, B5, hb45⟩ := hb45
        obtain ⟨p3, hp3⟩ : ∃ p3, p3 = p2 + 1 := ⟨_, rfl⟩
        have hp3i : (p2 : Int) + 1 = (p3 : Int) := by omega
        have HP3 := Lib.hid hp3
        clear hTr hfe hx h3
        rcases hpk' with B2 | ⟨p, d, hp, hpm, hc9, hdb, B2, B3⟩
        all_goals
          clear hpl href hL hLl hq hs hf hfl hans hcu h hA hc hm hend hsl hz hss hT7 hTn hT hp2e hp2l hM hqv hp3
          rcases hb45 with rfl | ⟨rfl, rfl⟩
          all_goals
            go_enter Try.func42, Try.ntmps42
            go_wp2_with fail
            go_quiet ((go_at_call 66; exact Calls.quiet_of_same ((HE.out _).mono fun _ _ h => ⟨h.1, h.2.symm⟩)))
            go_wp2
            go_quiet (fail)
            go_wp2
            go_loop [5, 6] (fun u i => ∃ (t U : Nat) (J : Int), u = .int .u64 U ∧ i = .int .i64 J ∧ t ≤ f + 1 ∧ J = (k : Int) + t - 1 ∧ U = Pk.vl (M.drop t)) (fun _ i => ((intOf i) + 1 - k).toNat)
            case atStart => exact ⟨f + 1, 0, _, rfl, rfl, Nat.le_refl _, by have := HF.out; omega, HM0.out.symm⟩
            case round =>
              obtain ⟨t, U, J, rfl, rfl, ht, hJ, hU⟩ := hrel
              rcases t with _ | t
              · have hJk : ¬ (k : Int) ≤ J := by omega
                have hJ1 : (-1 : Int) ≤ J := by omega
                have hJ2 : J ≤ 1000000 := by omega
                have HU := Lib.hid hU
                clear hJ hU ht
                go_wp2
                go_ret
                have hF := HF.out
                have h3 := HP3.out
                have e3 : p3 = k + (f + 1) := by omega
                refine ⟨by rw [HR.out]; exact ret_u64 (by show ((U : Nat) : Int) = _; rw [HU.out]; rfl), ?_, only_set (only_drewN (only_refl _ _) _) 1 _⟩
                rw [HR.out, ← e3]
                exact ((HCU.out.drew _).moved (by omega)).1
              · obtain ⟨P, hP⟩ : ∃ P, P = k + t := ⟨_, rfl⟩
                have hJP : J = (P : Int) := by omega
                subst hJP
                have hF := HF.out
                have hPl : P < l.length := by omega
                have hPm : P < m := by omega
                have hkP : (k : Int) ≤ (P : Int) := by omega
                have hcP := HC.out P hPl
                have hvx := HV.out t P (by omega) hPl hP
                have hbt := HB.out t
                have hPb : P ≤ 1000000 := by omega
                rw [hvx, ← hU] at hbt
                rw [← hU] at hvx
                have hyb := (l[P]).toNat_lt
                obtain ⟨y, hye⟩ : ∃ y, y = (l[P]).toNat := ⟨_, rfl⟩
                rw [← hye] at hcP hbt hvx hyb
                obtain ⟨V, hV⟩ : ∃ V, V = y % 128 + 128 * U := ⟨_, rfl⟩
                have hUV : (U : Int) * 128 + (y : Int) % 128 = (V : Int) := by omega
                have hUb : U * 128 < 18446744073709551616 := by omega
                have HVX := Lib.hid (hV.trans hvx.symm)
                have HT := Lib.hid (And.intro ht (And.intro hP hJ))
                clear hF hPl hbt hvx hye hV hU ht hP hJ
                go_wp2
                go_round
                case rel => exact ⟨t, V, _, rfl, rfl, by have := HT.out; omega, by have := HT.out; omega, HVX.out⟩
                case measure => simp [intOf]; omega

theorem rnum_any {lo C : Nat} {l : List UInt8} {k : Nat} {e : Int} {w : World} (h : Cu lo 42 w C l k e) :
    Calls Try.prog 42 #[.pointer (some ⟨C, 0, none⟩)] w fun x w' => x = .returned (u64v (Pk.stp 0 e (Pk.pNum (l.drop k))).v) ∧ Cu lo 42 w' C l (k + (Pk.stp 0 e (Pk.pNum (l.drop k))).n) (Pk.stp 0 e (Pk.pNum (l.drop k))).e ∧ w.grownBy w' (some C) := by
  by_cases he : e = 0
  · subst he
    rw [Pk.stp_ok]
    exact rnum_ok h
  · rw [Pk.stp_bad _ _ he]
    refine (rnum_bad he h).mono ?_
    rintro x w' ⟨rfl, rfl⟩
    exact ⟨rfl, h, only_refl _ _⟩

/-! ### a number with its sign -/
set_option maxHeartbeats 400000 in
theorem rint_any {lo C : Nat} {l : List UInt8} {k : Nat} {e : Int} {w : World} (h : Cu lo 42 w C l k e) :
    Calls Try.prog 37 #[.pointer (some ⟨C, 0, none⟩)] w fun x w' => x = .returned (i64v (Pk.stp 0 e (Pk.pInt (l.drop k))).v) ∧ Cu lo 42 w' C l (k + (Pk.stp 0 e (Pk.pInt (l.drop k))).n) (Pk.stp 0 e (Pk.pInt (l.drop k))).e ∧ w.grownBy w' (some C) := by
  have hs := rnum_any h
  have hlt := stp_num_lt e (l.drop k)
  rw [stp_int]
  obtain ⟨q, hq⟩ : ∃ q, q = Pk.stp 0 e (Pk.pNum (l.drop k)) := ⟨_, rfl⟩
  rw [← hq] at hs hlt ⊢
  obtain ⟨u, hu⟩ : ∃ u, u = q.v := ⟨_, rfl⟩
  rw [← hu] at hs hlt ⊢
  show Calls Try.prog 37 #[.pointer (some ⟨C, 0, none⟩)] w fun x w' => x = .returned (i64v (Pk.zag u)) ∧ Cu lo 42 w' C l (k + q.n) q.e ∧ w.grownBy w' (some C)
  obtain ⟨z, hz⟩ : ∃ z, z = Pk.zag u := ⟨_, rfl⟩
  rw [← hz]
  unfold Pk.zag at hz
  obtain ⟨g, hg⟩ : ∃ g, g = u / 2 := ⟨_, rfl⟩
  have hgb : g < 9223372036854775808 := by omega
  have hd : (u : Int) / 2 = (g : Int) := by omega
  have hw : IntKind.i64.wrap (g : Int) = (g : Int) := by rw [IntKind.wrap_i64]; omega
  have HS := Lib.hid hs
  clear hs hq hu h
  by_cases ho : u % 2 = 1
  · have h1 : (((u : Int) % 2) == 1) = true := by rw [beq_iff_eq]; omega
    have hzz : z = -(g : Int) - 1 := by rw [hz, if_pos ho, hg]
    have HZ := Lib.hid hzz
    clear hz hzz ho hg
    go_enter Try.func37, Try.ntmps37
    go_wp2_with fail
    refine (HS.out).mono ?_
    rintro x w1 ⟨rfl, hd⟩
    unfold u64v
    go_wp2
    go_ret
    exact ⟨ret_i64' (by show -(g : Int) - 1 = z; rw [HZ.out]), hd⟩
  · have h1 : (((u : Int) % 2) == 1) = false := by rw [beq_eq_false_iff_ne]; omega
    have hzz : z = (g : Int) := by rw [hz, if_neg ho, hg]
    have HZ := Lib.hid hzz
    clear hz hzz ho hg
    go_enter Try.func37, Try.ntmps37
    go_wp2_with fail
    refine (HS.out).mono ?_
    rintro x w1 ⟨rfl, hd⟩
    unfold u64v
    go_wp2
    go_ret
    exact ⟨ret_i64' (by show (g : Int) = z; rw [HZ.out]), hd⟩

end Go.Proofs.Ytjpdlnemkhofmaa
