/-
  What the statements on pack write through an Out.
-/
import Derived.Test.YtjpdlnemkhofmaaRfp
namespace Go.Proofs.Ytjpdlnemkhofmaa
open Go.RowKit
attribute [local go_sem ↓] Go.wp_at_zero Go.wp_at_succ

theorem keeps_below {w w' : World} (h : Below w.heap.size w w') : Keeps w w' := fun _ _ _ _ _ hB => hB.below h hB.lt
/-! ### what the statements write -/
set_option maxRecDepth 100000 in
set_option maxHeartbeats 2000000 in
theorem lput_any {lo hi O : Nat} {l : List UInt8} (o : Pk.Od) (ho : o.ok) (w : World) (hl : l.length ≤ 800000) (h : Ou lo hi w O l) :
    Calls Try.prog 12 #[.pointer (some ⟨O, 0, none⟩), Pk.odv o] w fun e w' => (∃ r, e = .returned r) ∧ Ou lo w'.heap.size w' O (l ++ Pk.put o) ∧ Below lo w w' ∧ Keeps w w' := by
  obtain ⟨d, n, s⟩ := o
  obtain ⟨hd1, hd2, hn1, hn2⟩ := ho
  have har := aro_is d 7 (w.alloc (.cells #[.int .i64 d, .int .i64 n, .string s] 29)) hd1 hd2 (by omega) (by omega)
  have hlt := Pk.aro_lt d (k := 7) (by omega)
  have hlts := h.lt
  have hb0 : Below lo w (w.alloc (.cells #[.int .i64 d, .int .i64 n, .string s] 29)) := (Below.refl _ w).alloc (by omega) _
  have hk0 : Keeps w (w.alloc (.cells #[.int .i64 d, .int .i64 n, .string s] 29)) := fun B t cs _ _ hB => blk_alloc hB _
  have hou := h.grown (World.grownBy_alloc w (.cells #[.int .i64 d, .int .i64 n, .string s] 29) none) (fun g e => by cases e)
  obtain ⟨F, hF⟩ : ∃ F, F = Pk.put ⟨d, n, s⟩ := ⟨_, rfl⟩
  rw [← hF]
  unfold Pk.put at hF
  replace hF : F = if Pk.aro d 7 = 4 then Pk.num (Pk.u64 n) else if Pk.aro d 7 = 5 then Pk.nName (Pk.nm n) else if Pk.aro d 7 = 6 then Pk.nInt (Pk.aro n 21 : Nat) else if Pk.aro d 7 = 2 then Pk.nText (s.data.toList.take 40) else if Pk.aro d 7 = 3 then Pk.nBool (decide (n.tmod 2 = 0)) else Pk.nInt n := hF
  obtain ⟨r, hr⟩ : ∃ r, r = Pk.aro d 7 := ⟨_, rfl⟩
  rw [← hr] at har hlt hF
  rw [show ((7 : Nat) : Int) = 7 from rfl] at har
  have HB0 := Lib.hid (And.intro hb0 hk0)
  have HOU := Lib.hid hou
  have HL := Lib.hid hl
  clear hr hb0 hk0 hd1 hd2 hou h hlts hl
  have h7 : r = 4 ∨ r = 5 ∨ r = 6 ∨ r = 2 ∨ r = 3 ∨ r = 0 ∨ r = 1 := by omega
  clear hlt
  have HAR := Lib.hid har
  clear har
  unfold Pk.odv
  rcases h7 with rfl | rfl | rfl | rfl | rfl | h01
  · rw [if_pos rfl] at hF
    subst hF
    have hw : IntKind.u64.wrap n = (Pk.u64 n : Int) := by rw [IntKind.wrap_u64]; unfold Pk.u64; omega
    have HC := Lib.hid (onum_any (Pk.u64 n) (Pk.u64_lt n) (by have := HL.out; omega) HOU.out)
    obtain ⟨u, hu⟩ : ∃ u, u = Pk.u64 n := ⟨_, rfl⟩
    rw [← hu] at hw HC ⊢
    clear hu hn1 hn2
    go_enter Try.func12, Try.ntmps12
    go_wp2_with fail
    refine (HAR.out).mono ?_
    rintro e w1 ⟨rfl, rfl⟩
    go_wp2_with fail
    refine (HC.out).mono ?_
    rintro e w2 ⟨⟨_, rfl⟩, hou, hb, hk⟩
    have HD := Lib.hid (And.intro hou (And.intro (HB0.out.1.trans hb) (HB0.out.2.trans hk)))
    clear hou hb hk
    go_wp2
    go_end0
    exact ⟨⟨_, rfl⟩, HD.out⟩
  · rw [if_neg (by omega), if_pos rfl] at hF
    subst hF
    have HN := Lib.hid (fun W : World => nm_is n W hn1 hn2)
    have hbn := nm_bounds n hn1 hn2
    have HC := Lib.hid (fun (W : World) (hb : Below (w.alloc (.cells #[.int .i64 d, .int .i64 n, .string s] 29)).heap.size (w.alloc (.cells #[.int .i64 d, .int .i64 n, .string s] 29)) W) => oname_any (Pk.nm n) hbn.1 hbn.2.1 hn1 hn2 hbn.2.2 (by have := HL.out; omega) (HOU.out.below hb HOU.out.lt.2.2))
    obtain ⟨x, hx⟩ : ∃ x, x = Pk.nm n := ⟨_, rfl⟩
    rw [← hx] at HN HC ⊢
    clear hx hn1 hn2 hbn
    go_enter Try.func12, Try.ntmps12
    go_wp2_with fail
    refine (HAR.out).mono ?_
    rintro e w1 ⟨rfl, rfl⟩
    go_wp2_with fail
    refine (HN.out _).mono ?_
    rintro e w2 ⟨rfl, hb2⟩
    have HC2 := Lib.hid (HC.out w2 hb2)
    have HB2 := Lib.hid (And.intro (HB0.out.1.trans (hb2.mono (by have := HOU.out.lt; omega))) (HB0.out.2.trans (keeps_below hb2)))
    clear hb2 HB0 HC
    go_wp2_with fail
    refine (HC2.out).mono ?_
    rintro e w3 ⟨⟨_, rfl⟩, hou, hb, hk⟩
    have HD := Lib.hid (And.intro hou (And.intro (HB2.out.1.trans hb) (HB2.out.2.trans hk)))
    clear hou hb hk
    go_wp2
    go_end0
    exact ⟨⟨_, rfl⟩, HD.out⟩
  · rw [if_neg (by omega), if_neg (by omega), if_pos rfl] at hF
    subst hF
    have hlt := Pk.aro_lt n (k := 21) (by omega)
    have HR := Lib.hid (fun W : World => aro_is n 21 W hn1 hn2 (by omega) (by omega))
    have HC := Lib.hid (oint_any (Pk.aro n 21 : Nat) (by omega) (by omega) (by have := HL.out; omega) HOU.out)
    obtain ⟨x, hx⟩ : ∃ x, x = Pk.aro n 21 := ⟨_, rfl⟩
    rw [← hx] at HR HC ⊢
    rw [show ((21 : Nat) : Int) = 21 from rfl] at HR
    clear hx hn1 hn2 hlt
    go_enter Try.func12, Try.ntmps12
    go_wp2_with fail
    refine (HAR.out).mono ?_
    rintro e w1 ⟨rfl, rfl⟩
    go_wp2_with fail
    refine (HR.out _).mono ?_
    rintro e w1 ⟨rfl, rfl⟩
    go_wp2_with fail
    refine (HC.out).mono ?_
    rintro e w2 ⟨⟨_, rfl⟩, hou, hb, hk⟩
    have HD := Lib.hid (And.intro hou (And.intro (HB0.out.1.trans hb) (HB0.out.2.trans hk)))
    clear hou hb hk
    go_wp2
    go_end0
    exact ⟨⟨_, rfl⟩, HD.out⟩
  · rw [if_neg (by omega), if_neg (by omega), if_neg (by omega), if_pos rfl] at hF
    have HS := Lib.hid (fun W : World => short_is s 40 W (by omega))
    rw [show ((40 : Nat) : Int) = 40 from rfl] at HS
    have HF := Lib.hid hF
    clear hn1 hn2 hF
    go_enter Try.func12, Try.ntmps12
    go_wp2_with fail
    refine (HAR.out).mono ?_
    rintro e w1 ⟨rfl, rfl⟩
    go_wp2_with fail
    refine (HS.out _).mono ?_
    rintro e w1 ⟨⟨t, rfl, ht⟩, rfl⟩
    have htl : t.size ≤ 1000 := by
      have h1 : t.data.toList.length = t.size := rfl
      rw [ht, List.length_take] at h1
      omega
    have HC := Lib.hid (otext_any t htl (by have := HL.out; omega) HOU.out)
    have HT := Lib.hid ht
    clear ht htl HS
    go_wp2_with fail
    refine (HC.out).mono ?_
    rintro e w2 ⟨⟨_, rfl⟩, hou, hb, hk⟩
    have hFt : Pk.nText t.data.toList = F := by rw [HT.out, HF.out]
    rw [hFt] at hou
    have HD := Lib.hid (And.intro hou (And.intro (HB0.out.1.trans hb) (HB0.out.2.trans hk)))
    clear hou hb hk hFt
    go_wp2
    go_end0
    exact ⟨⟨_, rfl⟩, HD.out⟩
  · rw [if_neg (by omega), if_neg (by omega), if_neg (by omega), if_neg (by omega), if_pos rfl] at hF
    subst hF
    obtain ⟨t, ht⟩ : ∃ t, t = n.tmod 2 := ⟨_, rfl⟩
    have htb := tmod2_bounds n
    rw [← ht] at htb ⊢
    have htt : n.tmod 2 = t := ht.symm
    have hwt : IntKind.i64.wrap t = t := by rw [IntKind.wrap_i64]; omega
    obtain ⟨b, hb⟩ : ∃ b : Bool, b = decide (t = 0) := ⟨_, rfl⟩
    have hbb : (t == 0) = b := by rw [hb, Bool.eq_iff_iff, beq_iff_eq, decide_eq_true_iff]
    rw [← hb]
    have HC := Lib.hid (obool_any b (by have := HL.out; omega) HOU.out)
    clear hb ht
    go_enter Try.func12, Try.ntmps12
    go_wp2_with fail
    refine (HAR.out).mono ?_
    rintro e w1 ⟨rfl, rfl⟩
    go_wp2_with fail
    refine (HC.out).mono ?_
    rintro e w2 ⟨⟨_, rfl⟩, hou, hb, hk⟩
    have HD := Lib.hid (And.intro hou (And.intro (HB0.out.1.trans hb) (HB0.out.2.trans hk)))
    clear hou hb hk
    go_wp2
    go_end0
    exact ⟨⟨_, rfl⟩, HD.out⟩
  · rw [if_neg (by omega), if_neg (by omega), if_neg (by omega), if_neg (by omega), if_neg (by omega)] at hF
    subst hF
    have HC := Lib.hid (oint_any n hn1 hn2 (by have := HL.out; omega) HOU.out)
    rcases h01 with rfl | rfl
    all_goals
      go_enter Try.func12, Try.ntmps12
      go_wp2_with fail
      refine (HAR.out).mono ?_
      rintro e w1 ⟨rfl, rfl⟩
      go_wp2_with fail
      refine (HC.out).mono ?_
      rintro e w2 ⟨⟨_, rfl⟩, hou, hb, hk⟩
      have HD := Lib.hid (And.intro hou (And.intro (HB0.out.1.trans hb) (HB0.out.2.trans hk)))
      clear hou hb hk
      go_wp2
      go_end0
      exact ⟨⟨_, rfl⟩, HD.out⟩

end Go.Proofs.Ytjpdlnemkhofmaa
