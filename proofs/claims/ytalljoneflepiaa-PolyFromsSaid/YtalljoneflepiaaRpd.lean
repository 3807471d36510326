/-
  The reference's division of polynomials.
-/
import Derived.Test.YtalljoneflepiaaVls
namespace Go.Proofs.Ytalljoneflepiaa
open Go.RowKit

/-- A number of what is left of one step. -/
def nx (l b : List Nat) (k c i : Nat) : Nat := if k ≤ i then Fld.sub (l[i]?.getD 0) (Fld.mul c (b[i - k]?.getD 0)) else l[i]?.getD 0
namespace Pl
theorem z3 (x : Fld.F) : 0 - x * 0 = 0 := by rw [Fin.mul_zero]; exact Fld.sub_zero 0
theorem nx_co {l b : List Nat} {n dg k c j : Nat} (hl : l.length = n) (hb : b.length = dg + 1) (hn : n = k + dg + 1) (hj : n = j + 1) (hc : Fld.to c * co b dg = co l j) :
    co (tab (nx l b k c) j) = co l - C (Fld.to c) * shn k (co b) := by
  refine co_tab_all (fun i hi => ?_) fun i hi => ?_
  · rw [sub_at, C_mul_at, shn_at]
    rcases Nat.lt_or_ge i n with h1 | h1
    · obtain rfl : i = j := by omega
      rw [if_pos (by omega), show i - k = dg by omega, hc]
      exact Fin.sub_self
    · rw [Lt.co l i (by omega)]
      by_cases h2 : k ≤ i
      · rw [if_pos h2, Lt.co b (i - k) (by omega)]; exact z3 _
      · omega
  · unfold nx
    rw [sub_at, C_mul_at, shn_at]
    by_cases h2 : k ≤ i
    · rw [if_pos h2, if_pos h2, Fld.to_subF, Fld.to_mulF]; rfl
    · rw [if_neg h2, if_neg h2, co_at]; grind
theorem quo_step {A0 B S Q : Pl} {k : Nat} {c : Fld.F} (h : A0 = Q * B + S) : A0 = (Q + C c * shn k (C 1)) * B + (S - C c * shn k B) := by
  rw [add_mul, mul_assoc, shn_mul, one_mul, h]
  exact ext fun n => by simp only [add_at, sub_at]; grind
theorem co_put {L : List Nat} {k c : Nat} (hk : k < L.length) (h0 : co L k = 0) : co (L.set k c) = co L + C (Fld.to c) * shn k (C 1) := ext fun n => by
  rw [co_set hk, add_at, C_mul_at, shn_at]
  by_cases h : n = k
  · subst h
    rw [if_pos rfl, if_pos (Nat.le_refl _), Nat.sub_self, h0, C_0]; grind
  · rw [if_neg h]
    by_cases h2 : k ≤ n
    · rw [if_pos h2]
      obtain ⟨j, hj⟩ : ∃ j, n - k = j + 1 := ⟨n - k - 1, by omega⟩
      rw [hj, C_s]; grind
    · rw [if_neg h2]; grind
end Pl

theorem Rq.below {g : Nat} {w w' : World} {A : Option Addr} {vs : List Value} (h : Rq g w A vs) (hb : Below w.heap.size w w') : Rq g w' A vs := h.grown (below_grown hb _)
theorem Rq.num {g : Nat} {w : World} {A : Option Addr} {l : List Nat} (h : Rq g w A (u64s l)) {k : Nat} (hk : k < l.length) : ∃ b off, A = some ⟨b, off, none⟩ ∧ b ≠ g ∧ b < w.heap.size ∧ w.cell? ⟨b, off + k, none⟩ = some (.int .u64 ((l[k]?.getD 0 : Nat) : Int)) := by
  obtain ⟨b, off, e, hne, hb, hc⟩ := h (by rw [u64s_len]; omega)
  exact ⟨b, off, e, hne, hb, hc k _ (u64s_at hk)⟩
theorem Rq.rd {g : Nat} {w : World} {A : Option Addr} {vs : List Value} (h : Rq g w A vs) : Rd w.heap.size w A vs := fun hp => by
  obtain ⟨b, off, e, _, h1, h2⟩ := h hp
  exact ⟨b, off, e, h1, h2⟩

/-- What the reference's DivMod keeps. -/
def RdmAt (w wr : World) (gq N m : Nat) (Ab : Option Addr) (bl : List Nat) (A0 B : Pl) (n0 n : Nat) (lf : Value) : Prop :=
  ∃ A c l S Q Lq, lf = .slice A n c ∧ n = l.length ∧ n ≤ c ∧ (A = none → c = 0) ∧ n ≤ n0 ∧ Pl.Is l S ∧ Rq gq wr A (u64s l) ∧ Ar wr gq Lq ∧ Lq.length = N ∧ Pl.Sm Lq ∧ Pl.co Lq = Q ∧ A0 = Q * B + S ∧ (∀ i, i + m ≤ n → Pl.co Lq i = 0) ∧
    Rq gq wr Ab (u64s bl) ∧ w.heap.size ≤ gq ∧ Below w.heap.size w wr

/-- What the reference's DivMod tells. -/
def RdT (s t : Pl) (d : Nat) (e : Ending) (w' : World) : Prop := (t = 0 → e = .returned (.tuple #[.slice none 0 0, .slice none 0 0])) ∧ (t ≠ 0 → ∃ z z2 q r, e = .returned (.tuple #[z, z2]) ∧ Tv w' z q d ∧ Tv w' z2 r d ∧ Pl.DM s t q r)

set_option maxRecDepth 100000 in
set_option maxHeartbeats 8000000 in
theorem rdivmod_any (A A2 : Option Addr) (na ca nb cb : Nat) (a b : List Nat) (w : World) (hn : na = a.length) (hm : nb = b.length) (hn9 : na ≤ 100000) (hm9 : nb ≤ 100000) (hA : Rd w.heap.size w A (u64s a)) (hA2 : Rd w.heap.size w A2 (u64s b)) :
    Calls Try.prog 25 #[.slice A na ca, .slice A2 nb cb] w fun e w' => RdT (Pl.co a) (Pl.co b) na e w' ∧ Below w.heap.size w w' := by
  have hlta : Pl.Lt (Pl.co a) na := (Pl.Lt.co a).mono (by omega)
  have hltb : Pl.Lt (Pl.co b) nb := (Pl.Lt.co b).mono (by omega)
  have h1 := rtrim_any A2 nb cb b w hm (by omega) hA2
  have h2 := fun w1 (hw : Below w.heap.size w w1) => rtrim_any A na ca a w1 hn (by omega) (hA.at_world hw)
  have H1 := Lib.hid h1
  have H2 := Lib.hid h2
  have HLA := Lib.hid hlta
  have HLB := Lib.hid hltb
  clear h1 h2 hlta hltb hn hm hA hA2
  go_enter Try.func25, Try.ntmps25
  go_wp2_with fail
  refine H1.out.mono ?_
  rintro e w1 ⟨⟨Ab, m, cm, bl, rfl, hpb, hib, hfb⟩, hb1⟩
  have hm1 : m ≤ nb := by have := hib.1.len (hib.2.symm ▸ HLB.out); have := hpb.1; omega
  have hz := hib.1.len_zero
  rw [hib.2, ← hpb.1] at hz
  have HZ := Lib.hid hz
  have HPB := Lib.hid hpb
  have HIB := Lib.hid hib
  clear hpb hib hz hfb
  rcases Nat.eq_zero_or_pos m with h0 | h0
  · have hz0 := HZ.out.1 h0
    have HZ0 := Lib.hid hz0
    clear hz0
    subst h0
    go_wp2
    go_ret2
    exact ⟨⟨fun _ => rfl, fun h => absurd HZ0.out h⟩, hb1⟩
  · have t1 : ((m : Int) == 0) = false := by rw [beq_eq_false_iff_ne]; omega
    obtain ⟨dg, hdg⟩ : ∃ dg, m = dg + 1 := ⟨m - 1, by omega⟩
    have hdb := HIB.out.1.dg (HPB.out.1.symm.trans hdg)
    have HDB := Lib.hid hdb
    obtain ⟨bb, ob, eb, hbb, hcb⟩ := HPB.out.2.1.num (k := dg) (by have := HPB.out.1; omega)
    subst eb
    have hbl : Fld.to (bl[dg]?.getD 0) = Pl.co bl dg := rfl
    obtain ⟨y, hy⟩ : ∃ y, y = bl[dg]?.getD 0 := ⟨_, rfl⟩
    rw [← hy] at hcb hbl
    have HBL := Lib.hid hbl
    have HDG := Lib.hid hdg
    have t2 : (m : Int) - 1 = (dg : Int) := by omega
    have t3 : (0 : Int) ≤ (dg : Int) := by omega
    have t4 : (dg : Int) < (m : Int) := by omega
    have HCB := Lib.hid hcb
    clear hy hbl hdb hdg hcb
    go_wp2_with fail
    refine (H2.out w1 hb1).mono ?_
    rintro e w2 ⟨⟨Al, n0, cl, l0, rfl, hpl, hil, hfl⟩, hb2⟩
    have hn0 : n0 ≤ na := by have := hil.1.len (hil.2.symm ▸ HLA.out); have := hpl.1; omega
    have hbw2 := kept_trans hb1 hb2
    have hcb2 := (hb2.cell (p := ⟨bb, ob + dg, none⟩) hbb).trans HCB.out
    have HPL := Lib.hid hpl
    have HIL := Lib.hid hil
    have HPB2 := Lib.hid (HPB.out.below hb2)
    clear hpl hil hfl
    go_wp2_with fail
    refine (rinv_any y w2).mono ?_
    rintro e w3 ⟨rfl, hb3⟩
    have hbw3 := kept_trans hbw2 hb3
    have hiv : Fld.to (Fld.pow y 2305843009213693949) = Fld.iv (Pl.co bl dg) := by rw [Fld.to_powI, HBL.out]
    obtain ⟨v, hv⟩ : ∃ v, v = Fld.pow y 2305843009213693949 := ⟨_, rfl⟩
    rw [← hv] at hiv ⊢
    have HIV := Lib.hid hiv
    have HPL3 := Lib.hid (HPL.out.below hb3)
    have HPB3 := Lib.hid (HPB2.out.below hb3)
    clear hv hiv hcb2
    obtain ⟨N, hN⟩ : ∃ N, N = n0 + 1 - m := ⟨_, rfl⟩
    have hmk := mk64 N (by omega)
    have t5 : (if (n0 : Int) - (m : Int) + 1 < 0 then (0 : Int) else (n0 : Int) - (m : Int) + 1) = (N : Int) := by split <;> omega
    have HN := Lib.hid hN
    clear hN
    go_wp2
    have hr4 := ar_new w3 (List.replicate N 0)
    have hb4 : Below w3.heap.size w3 (w3.alloc (.cells (u64s (List.replicate N 0)).toArray 23)) := (Below.refl _ w3).alloc (Nat.le_refl _) _
    obtain ⟨w4, hw4⟩ : ∃ w4, w4 = w3.alloc (.cells (u64s (List.replicate N 0)).toArray 23) := ⟨_, rfl⟩
    rw [← hw4] at hr4 hb4 ⊢
    have hgw := hbw3.size
    have hgl := hr4.lt
    obtain ⟨gq, hgq⟩ : ∃ gq, gq = w3.heap.size := ⟨_, rfl⟩
    rw [← hgq] at hr4 hgw hgl ⊢
    have hst : RdmAt w w4 gq N m (some ⟨bb, ob, none⟩) bl (Pl.co a) (Pl.co b) n0 n0 (.slice Al n0 cl) :=
      ⟨Al, cl, l0, Pl.co a, 0, List.replicate N 0, rfl, HPL3.out.1, HPL3.out.2.2.1, HPL3.out.2.2.2, Nat.le_refl _, HIL.out, (HPL3.out.2.1.below hb4).rq (by omega) hb4.size, hr4, List.length_replicate, Pl.sm_zeros N, Pl.co_zeros N, by rw [Pl.zero_mul, Pl.zero_add], fun _ _ => by rw [Pl.co_zeros]; rfl,
        (HPB3.out.2.1.below hb4).rq (by omega) hb4.size, hgw, kept_trans hbw3 hb4⟩
    have HST := Lib.hid hst
    clear hst hr4 hw4 hgq hb4 t1 t2 t3 t4 t5 hmk hbb
    go_loopw [7] (fun lf wr => ∃ n : Nat, RdmAt w wr gq N m (some ⟨bb, ob, none⟩) bl (Pl.co a) (Pl.co b) n0 n lf) (fun lf _ => match lf with | .slice _ n _ => n | _ => 0)
    case atStart => exact ⟨n0, HST.out⟩
    case round =>
      obtain ⟨n, A1, c1, l, S, Q, Lq, rfl, hnl, hnc, hA0, hnn, hiS, hRl, hAq, hLN, hSq, hcQ, hde, hzq, hRb, hwg, hbr⟩ := hrel
      have HR := Lib.hid (And.intro hnl (And.intro hiS (And.intro hRl (And.intro hAq (And.intro hLN (And.intro hSq (And.intro hcQ (And.intro hde (And.intro hzq (And.intro hRb hA0))))))))))
      clear HST hnl hiS hRl hAq hLN hSq hcQ hde hzq hRb hA0
      by_cases hge : m ≤ n
      · obtain ⟨k, hk⟩ : ∃ k, k = n - m := ⟨_, rfl⟩
        obtain ⟨j, hj⟩ : ∃ j, n = j + 1 := ⟨n - 1, by omega⟩
        have hkN : k < N := by have := HN.out; omega
        have s1 : (n : Int) - (m : Int) = (k : Int) := by omega
        have s2 : (n : Int) - 1 = (j : Int) := by omega
        have s3 : (0 : Int) ≤ (j : Int) := by omega
        have s4 : (j : Int) < (n : Int) := by omega
        have s5 : (n : Int) ≤ 100000 := by omega
        have s6 : (0 : Int) ≤ (k : Int) := by omega
        have s7 : (k : Int) < (N : Int) := by omega
        obtain ⟨b1, o1, e1, hb1n, hb1s, hc1⟩ := HR.out.2.2.1.num (k := j) (by rw [← HR.out.1]; omega)
        obtain ⟨x, hx⟩ : ∃ x, x = l[j]?.getD 0 := ⟨_, rfl⟩
        rw [← hx] at hc1
        have hxc : Fld.to x = Pl.co l j := by rw [hx]; rfl
        have HXC := Lib.hid hxc
        have HJ := Lib.hid hj
        have HK := Lib.hid hk
        have hrm := rmul_any x v wr
        have hcl := Fld.mul_lt x v
        have hct : Fld.to (Fld.mul x v) * Pl.co bl dg = Pl.co l j := by
          rw [Fld.to_mulF, hxc, HIV.out]
          have := Fld.mul_iv HDB.out.1
          grind
        obtain ⟨c, hc⟩ : ∃ c, c = Fld.mul x v := ⟨_, rfl⟩
        rw [← hc] at hrm hcl hct
        have HRM := Lib.hid hrm
        have HCT := Lib.hid hct
        clear hx hxc hj hk hrm hc hct
        subst e1
        go_wp2_with fail
        refine HRM.out.mono ?_
        rintro e w5 ⟨rfl, hb5⟩
        have hq5 := HR.out.2.2.2.1.below hb5 HR.out.2.2.2.1.lt
        have hcq := hq5.cell (i := k) (by rw [HR.out.2.2.2.2.1]; exact hkN)
        have hfq := hq5.frozen k
        have HQ5 := Lib.hid hq5
        have HL5 := Lib.hid (HR.out.2.2.1.below hb5)
        have HB5 := Lib.hid (HR.out.2.2.2.2.2.2.2.2.2.1.below hb5)
        have hbw5 : Below w.heap.size w w5 := kept_trans hbr hb5
        clear hq5
        go_wp2
        have hq6 := HQ5.out.set_ k c
        have hg6 : w5.grownBy (w5.setCell ⟨gq, k, none⟩ (.int .u64 (c : Int))) (some gq) := only_set (only_refl w5 (some gq)) k _
        obtain ⟨w6, hw6⟩ : ∃ w6, w6 = w5.setCell ⟨gq, k, none⟩ (.int .u64 (c : Int)) := ⟨_, rfl⟩
        rw [← hw6] at hq6 hg6 ⊢
        have HQ6 := Lib.hid hq6
        have HL6 := Lib.hid (HL5.out.grown hg6)
        have HB6 := Lib.hid (HB5.out.grown hg6)
        have hbw6 : Below w.heap.size w w6 := hbw5.trans (below_only hg6 hwg hbw5.size)
        have hgs6 := hq6.lt
        clear hw6 hq6 hcq hfq hg6 hc1 s2 s3 s4 s6 s7
        have hnil := Gl.nil w6.heap.size w6
        have hbb6 : Below w6.heap.size w6 w6 := Below.refl _ _
        have s8 : (n : Int) = (j : Int) + 1 := by have := HJ.out; omega
        have S8 := Lib.hid s8
        clear s8
        go_loopw [12, 13] (fun o i wr => ∃ t : Nat, i = .int .i64 (t : Int) ∧ t ≤ j ∧ Gl w6.heap.size wr o (Pl.tab (nx l bl k c) t) ∧ Below w6.heap.size w6 wr) (fun _ i _ => j - (intOf i).toNat)
        case atStart => exact ⟨0, rfl, Nat.zero_le _, hnil, hbb6⟩
        case round =>
          obtain ⟨t, rfl, ht, hg, hbt⟩ := hrel
          have HG := Lib.hid hg
          clear hg hnil hbb6
          have hszt := hbt.size
          by_cases hlt : t < j
          · have u1 : (t : Int) + 1 < (n : Int) := by have := S8.out; omega
            obtain ⟨b3, o3, e3, hb3n, hb3s, hc3⟩ := HL6.out.num (k := t) (by have := HR.out.1; have := HJ.out; omega)
            have hc3r := (hbt.cell (p := ⟨b3, o3 + t, none⟩) hb3s).trans hc3
            have htk := Pl.tab_succ (nx l bl k c) t
            have hlen : (Pl.tab (nx l bl k c) t).length ≤ 100000 := by rw [Pl.tab_len]; have := S8.out; omega
            have HLEN := Lib.hid hlen
            obtain ⟨y, hy⟩ : ∃ y, y = l[t]?.getD 0 := ⟨_, rfl⟩
            rw [← hy] at hc3r
            obtain ⟨z, hz⟩ : ∃ z, z = nx l bl k c t := ⟨_, rfl⟩
            rw [← hz] at htk
            have HTK := Lib.hid htk
            have u2 : (t : Int) < (n : Int) := by omega
            have u3 : (0 : Int) ≤ (t : Int) := by omega
            by_cases hkt : k ≤ t
            · obtain ⟨i, hi⟩ : ∃ i, i = t - k := ⟨_, rfl⟩
              have v1 : (t : Int) - (k : Int) = (i : Int) := by omega
              have v2 : (0 : Int) ≤ (i : Int) := by omega
              have v3 : i < m := by have := S8.out; have := HK.out; omega
              have v4 : (i : Int) < (m : Int) := by omega
              obtain ⟨b4, o4, e4, hb4n, hb4s, hc4⟩ := HB6.out.num (k := i) (by have := HPB.out.1; omega)
              have hc4r := (hbt.cell (p := ⟨b4, o4 + i, none⟩) hb4s).trans hc4
              obtain ⟨q, hq⟩ : ∃ q, q = bl[i]?.getD 0 := ⟨_, rfl⟩
              rw [← hq] at hc4r
              have hzz : z = Fld.sub y (Fld.mul c q) := by rw [hz]; unfold nx; rw [if_pos hkt, ← hi, hy, hq]
              have hm1 := rmul_any c q wr
              obtain ⟨r, hr⟩ : ∃ r, r = Fld.mul c q := ⟨_, rfl⟩
              rw [← hr] at hm1 hzz
              have hs1 := fun W => rsub_any y r W
              rw [← hzz] at hs1
              have HM1 := Lib.hid hm1
              have HS1 := Lib.hid hs1
              clear hy hz htk hc3 hlen hi hc4 hq hzz hm1 hr hs1
              injection e4 with e4
              injection e4 with e5 e6
              subst e5 e6
              injection e3 with e3
              injection e3 with e7 e8
              subst e7 e8
              go_wp2_with fail
              refine HM1.out.mono ?_
              rintro e w7 ⟨rfl, hb7⟩
              go_wp2_with fail
              refine (HS1.out _).mono ?_
              rintro e w8 ⟨rfl, rfl⟩
              have hbt7 := kept_trans hbt hb7
              have HG7 := Lib.hid (HG.out.below hb7)
              have hsz7 := hbt7.size
              go_wp2_with (at_builtin; refine wpList_push64 rfl _ _ rfl w6.heap.size z _ _ HG7.out rfl rfl (Nat.le_trans HLEN.out (by omega)) hsz7 ?_; intro u w9 hz1 hb1; have HZ1 := Lib.hid hz1; clear hz1)
              go_roundw
              case rel => exact ⟨t + 1, by go_num, hlt, by rw [HTK.out]; exact HZ1.out, hbt7.trans hb1⟩
              case measure => simp [intOf]; omega
            · have hzz : z = y := by rw [hz]; unfold nx; rw [if_neg hkt, hy]
              subst hzz
              clear hy hz htk hc3 hlen
              injection e3 with e3
              injection e3 with e7 e8
              subst e7 e8
              go_wp2_with (at_builtin; refine wpList_push64 rfl _ _ rfl w6.heap.size z _ _ HG.out rfl rfl (Nat.le_trans HLEN.out (by omega)) hszt ?_; intro u w9 hz1 hb1; have HZ1 := Lib.hid hz1; clear hz1)
              go_roundw
              case rel => exact ⟨t + 1, by go_num, hlt, by rw [HTK.out]; exact HZ1.out, hbt.trans hb1⟩
              case measure => simp [intOf]; omega
          · obtain rfl : t = j := by omega
            have u1 : ¬ (t : Int) + 1 < (n : Int) := by have := S8.out; omega
            have u0 : (t : Int) ≤ 100000 := by have := S8.out; omega
            have hco := Pl.nx_co HR.out.1.symm (HPB.out.1.symm.trans HDG.out) (show n = k + dg + 1 by have := HK.out; have := HDG.out; omega) HJ.out HCT.out
            rw [HR.out.2.1.2] at hco
            obtain ⟨A7, c7, rfl, hp7, _⟩ := HG.out.pt
            have hl7 := Pl.tab_len (nx l bl k c) t
            obtain ⟨L7, hL7⟩ : ∃ L7, L7 = Pl.tab (nx l bl k c) t := ⟨_, rfl⟩
            rw [← hL7] at hco hp7 hl7 ⊢
            obtain ⟨n7, hn7⟩ : ∃ n7, n7 = L7.length := ⟨_, rfl⟩
            rw [← hn7] at hp7 hl7 ⊢
            have htr := rtrim_any A7 n7 c7 L7 wr hn7 (by have := S8.out; omega) hp7.2.1
            rw [hco] at htr
            have HTR := Lib.hid htr
            have hlts : Pl.Lt (S - Pl.C (Fld.to c) * Pl.shn k (Pl.co bl)) t := hco ▸ (Pl.Lt.co L7).mono (by omega)
            have HLTS := Lib.hid hlts
            clear hL7 hco hp7 htr HG hl7 hn7 hlts
            go_wp2_with fail
            refine HTR.out.mono ?_
            rintro e w8 ⟨⟨A8, n8, c8, l8, rfl, hp8, hi8, hf8⟩, hb8⟩
            have hbt8 := hbt.trans (hb8.mono hszt)
            have hn8 : n8 ≤ t := by
              have h := hi8.1.len (n := t) (hi8.2.symm ▸ HLTS.out)
              have := hp8.1
              omega
            have H8 := Lib.hid (And.intro hp8 (And.intro hi8 hf8))
            have HQ8 := Lib.hid (HQ6.out.below hbt8 hgs6)
            have HB8 := Lib.hid (HB6.out.below hbt8)
            clear hp8 hi8 hf8
            go_wp2
            go_roundw
            case rel =>
              obtain ⟨hp8, hi8, hf8⟩ := H8.out
              refine ⟨n8, A8, c8, l8, _, _, _, rfl, hp8.1, hp8.2.2.1, hp8.2.2.2, by have := HJ.out; omega, hi8, fun hp => ?_, HQ8.out, by rw [List.length_set]; exact HR.out.2.2.2.2.1, ?_, rfl, ?_, ?_, HB8.out, hwg, hbw6.trans (hbt8.mono hbw6.size)⟩
              · obtain ⟨b, o, e, h1, h2⟩ := hp8.2.1 hp
                exact ⟨b, o, e, by have := hf8 b o e; omega, h1, h2⟩
              · exact Pl.Sm.set_ HR.out.2.2.2.2.2.1 k (by omega)
              · rw [Pl.co_put (by rw [HR.out.2.2.2.2.1]; exact hkN) (HR.out.2.2.2.2.2.2.2.2.1 k (by have := HK.out; omega)), HR.out.2.2.2.2.2.2.1, HIB.out.2]
                exact Pl.quo_step HR.out.2.2.2.2.2.2.2.1
              · intro i hi
                rw [Pl.co_set (by rw [HR.out.2.2.2.2.1]; exact hkN), if_neg (by have := HK.out; have := HJ.out; omega)]
                exact HR.out.2.2.2.2.2.2.2.2.1 i (by have := HJ.out; omega)
            case measure => simp; have := HJ.out; omega
      · obtain ⟨hnl, hiS, hRl, hAq, hLN, hSq, hcQ, hde, hzq, hRb, hA0⟩ := HR.out
        have hlt : n < m := by omega
        have htr := rtrim_any (some ⟨gq, 0, none⟩) N N Lq wr hLN.symm (by have := HN.out; omega) (hAq.rd hAq.lt)
        rw [hcQ] at htr
        have HTR := Lib.hid htr
        clear hnl hiS hRl hAq hLN hSq hcQ hde hzq hRb hA0 htr
        go_wp2_with fail
        refine HTR.out.mono ?_
        rintro e w8 ⟨hp8, hb8⟩
        have hbw8 := kept_trans hbr hb8
        have hbne : Pl.co b ≠ 0 := fun h => by have := HZ.out.2 h; omega
        have hdm : Pl.DM (Pl.co a) (Pl.co b) Q S := by
          refine ⟨HR.out.2.2.2.2.2.2.1 ▸ Pl.Po.co _, HR.out.2.1.2 ▸ Pl.Po.co _, HR.out.2.2.2.2.2.2.2.1, fun d hd => ?_⟩
          have hd2 := HDB.out
          rw [HIB.out.2] at hd2
          obtain rfl := hd.uniq hd2
          rw [← HR.out.2.1.2]
          exact (Pl.Lt.co l).mono (by have := HR.out.1; have := HDG.out; omega)
        have hlt2 := dm_lt hdm (Pl.Po.co b) hbne HLA.out
        obtain ⟨z, rfl, hz⟩ := Tv.mk hp8 hlt2.1
        have hS8 : Tv w8 (.slice A1 n c1) S na := ⟨A1, n, c1, l, rfl, ⟨HR.out.1, (HR.out.2.2.1.below hb8).rd, hnc, HR.out.2.2.2.2.2.2.2.2.2.2⟩, HR.out.2.1, by omega⟩
        have H8 := Lib.hid (And.intro hz (And.intro hS8 (And.intro hdm hbne)))
        clear hz hS8 hdm hlt2 hbne hp8
        go_wp2
        go_ret2
        exact ⟨⟨fun h => absurd h H8.out.2.2.2, fun _ => ⟨z, _, Q, S, rfl, H8.out.1, H8.out.2.1, H8.out.2.2.1⟩⟩, hbw8⟩
end Go.Proofs.Ytalljoneflepiaa
