/-
  The reference's division of polynomials, its Gcd, its products of x less each root, and its interpolation (Lagrange's).
-/
import Derived.Test.YtalljoneflepiaaVls
namespace Go.Proofs.Ytalljoneflepiaa
open Go.RowKit

/-- A number of what is left of one step. -/
def nx (l b : List Nat) (k c i : Nat) : Nat := if k ≤ i then Fld.sub (l[i]?.getD 0) (Fld.mul c (b[i - k]?.getD 0)) else l[i]?.getD 0
namespace Pl
theorem z3 (x : Fld.F) : 0 - x * 0 = 0 := by rw [Fin.mul_zero]; exact Fld.sub_zero 0
theorem nx_co {l b : List Nat} {n dg k c j : Nat} (hl : l.length = n) (hb : b.length = dg + 1) (hn : n = k + dg + 1) (hj : n = j + 1) (hc : Fld.to c * co b dg = co l j) :
    co (tab (nx l b k c) j) = co l - C (Fld.to c) * shn k (co b) := by
  refine co_tab_all (fun i hi => ?_) fun i hi => ?_
  · rw [sub_at, C_mul_at, shn_at]
    rcases Nat.lt_or_ge i n with h1 | h1
    · obtain rfl : i = j := by omega
      rw [if_pos (by omega), show i - k = dg by omega, hc]
      exact Fin.sub_self
    · rw [Lt.co l i (by omega)]
      by_cases h2 : k ≤ i
      · rw [if_pos h2, Lt.co b (i - k) (by omega)]; exact z3 _
      · omega
  · unfold nx
    rw [sub_at, C_mul_at, shn_at]
    by_cases h2 : k ≤ i
    · rw [if_pos h2, if_pos h2, Fld.to_subF, Fld.to_mulF]; rfl
    · rw [if_neg h2, if_neg h2, co_at]; grind
theorem quo_step {A0 B S Q : Pl} {k : Nat} {c : Fld.F} (h : A0 = Q * B + S) : A0 = (Q + C c * shn k (C 1)) * B + (S - C c * shn k B) := by
  rw [add_mul, mul_assoc, shn_mul, one_mul, h]
  exact ext fun n => by simp only [add_at, sub_at]; grind
theorem co_put {L : List Nat} {k c : Nat} (hk : k < L.length) (h0 : co L k = 0) : co (L.set k c) = co L + C (Fld.to c) * shn k (C 1) := ext fun n => by
  rw [co_set hk, add_at, C_mul_at, shn_at]
  by_cases h : n = k
  · subst h
    rw [if_pos rfl, if_pos (Nat.le_refl _), Nat.sub_self, h0, C_0]; grind
  · rw [if_neg h]
    by_cases h2 : k ≤ n
    · rw [if_pos h2]
      obtain ⟨j, hj⟩ : ∃ j, n - k = j + 1 := ⟨n - k - 1, by omega⟩
      rw [hj, C_s]; grind
    · rw [if_neg h2]; grind
end Pl

theorem Rq.below {g : Nat} {w w' : World} {A : Option Addr} {vs : List Value} (h : Rq g w A vs) (hb : Below w.heap.size w w') : Rq g w' A vs := h.grown (below_grown hb _)
theorem Rq.num {g : Nat} {w : World} {A : Option Addr} {l : List Nat} (h : Rq g w A (u64s l)) {k : Nat} (hk : k < l.length) : ∃ b off, A = some ⟨b, off, none⟩ ∧ b ≠ g ∧ b < w.heap.size ∧ w.cell? ⟨b, off + k, none⟩ = some (.int .u64 ((l[k]?.getD 0 : Nat) : Int)) := by
  obtain ⟨b, off, e, hne, hb, hc⟩ := h (by rw [u64s_len]; omega)
  exact ⟨b, off, e, hne, hb, hc k _ (u64s_at hk)⟩
theorem Rq.rd {g : Nat} {w : World} {A : Option Addr} {vs : List Value} (h : Rq g w A vs) : Rd w.heap.size w A vs := fun hp => by
  obtain ⟨b, off, e, _, h1, h2⟩ := h hp
  exact ⟨b, off, e, h1, h2⟩

/-- What the reference's DivMod keeps. -/
def RdmAt (w wr : World) (gq N m : Nat) (Ab : Option Addr) (bl : List Nat) (A0 B : Pl) (n0 n : Nat) (lf : Value) : Prop :=
  ∃ A c l S Q Lq, lf = .slice A n c ∧ n = l.length ∧ n ≤ c ∧ (A = none → c = 0) ∧ n ≤ n0 ∧ Pl.Is l S ∧ Rq gq wr A (u64s l) ∧ Ar wr gq Lq ∧ Lq.length = N ∧ Pl.Sm Lq ∧ Pl.co Lq = Q ∧ A0 = Q * B + S ∧ (∀ i, i + m ≤ n → Pl.co Lq i = 0) ∧
    Rq gq wr Ab (u64s bl) ∧ w.heap.size ≤ gq ∧ Below w.heap.size w wr

/-- What the reference's DivMod tells. -/
def RdT (s t : Pl) (d : Nat) (e : Ending) (w' : World) : Prop := (t = 0 → e = .returned (.tuple #[.slice none 0 0, .slice none 0 0])) ∧ (t ≠ 0 → ∃ z z2 q r, e = .returned (.tuple #[z, z2]) ∧ Tv w' z q d ∧ Tv w' z2 r d ∧ Pl.DM s t q r)

set_option maxRecDepth 100000 in
set_option maxHeartbeats 8000000 in
theorem rdivmod_any (A A2 : Option Addr) (na ca nb cb : Nat) (a b : List Nat) (w : World) (hn : na = a.length) (hm : nb = b.length) (hn9 : na ≤ 100000) (hm9 : nb ≤ 100000) (hA : Rd w.heap.size w A (u64s a)) (hA2 : Rd w.heap.size w A2 (u64s b)) :
    Calls Try.prog 25 #[.slice A na ca, .slice A2 nb cb] w fun e w' => RdT (Pl.co a) (Pl.co b) na e w' ∧ Below w.heap.size w w' := by
  have hlta : Pl.Lt (Pl.co a) na := (Pl.Lt.co a).mono (by omega)
  have hltb : Pl.Lt (Pl.co b) nb := (Pl.Lt.co b).mono (by omega)
  have h1 := rtrim_any A2 nb cb b w hm (by omega) hA2
  have h2 := fun w1 (hw : Below w.heap.size w w1) => rtrim_any A na ca a w1 hn (by omega) (hA.at_world hw)
  have H1 := Lib.hid h1
  have H2 := Lib.hid h2
  have HLA := Lib.hid hlta
  have HLB := Lib.hid hltb
  clear h1 h2 hlta hltb hn hm hA hA2
  go_enter Try.func25, Try.ntmps25
  go_wp2_with fail
  refine H1.out.mono ?_
  rintro e w1 ⟨⟨Ab, m, cm, bl, rfl, hpb, hib, hfb⟩, hb1⟩
  have hm1 : m ≤ nb := by have := hib.1.len (hib.2.symm ▸ HLB.out); have := hpb.1; omega
  have hz := hib.1.len_zero
  rw [hib.2, ← hpb.1] at hz
  have HZ := Lib.hid hz
  have HPB := Lib.hid hpb
  have HIB := Lib.hid hib
  clear hpb hib hz hfb
  rcases Nat.eq_zero_or_pos m with h0 | h0
  · have hz0 := HZ.out.1 h0
    have HZ0 := Lib.hid hz0
    clear hz0
    subst h0
    go_wp2
    go_ret2
    exact ⟨⟨fun _ => rfl, fun h => absurd HZ0.out h⟩, hb1⟩
  · have t1 : ((m : Int) == 0) = false := by rw [beq_eq_false_iff_ne]; omega
    obtain ⟨dg, hdg⟩ : ∃ dg, m = dg + 1 := ⟨m - 1, by omega⟩
    have hdb := HIB.out.1.dg (HPB.out.1.symm.trans hdg)
    have HDB := Lib.hid hdb
    obtain ⟨bb, ob, eb, hbb, hcb⟩ := HPB.out.2.1.num (k := dg) (by have := HPB.out.1; omega)
    subst eb
    have hbl : Fld.to (bl[dg]?.getD 0) = Pl.co bl dg := rfl
    obtain ⟨y, hy⟩ : ∃ y, y = bl[dg]?.getD 0 := ⟨_, rfl⟩
    rw [← hy] at hcb hbl
    have HBL := Lib.hid hbl
    have HDG := Lib.hid hdg
    have t2 : (m : Int) - 1 = (dg : Int) := by omega
    have t3 : (0 : Int) ≤ (dg : Int) := by omega
    have t4 : (dg : Int) < (m : Int) := by omega
    have HCB := Lib.hid hcb
    clear hy hbl hdb hdg hcb
    go_wp2_with fail
    refine (H2.out w1 hb1).mono ?_
    rintro e w2 ⟨⟨Al, n0, cl, l0, rfl, hpl, hil, hfl⟩, hb2⟩
    have hn0 : n0 ≤ na := by have := hil.1.len (hil.2.symm ▸ HLA.out); have := hpl.1; omega
    have hbw2 := kept_trans hb1 hb2
    have hcb2 := (hb2.cell (p := ⟨bb, ob + dg, none⟩) hbb).trans HCB.out
    have HPL := Lib.hid hpl
    have HIL := Lib.hid hil
    have HPB2 := Lib.hid (HPB.out.below hb2)
    clear hpl hil hfl
    go_wp2_with fail
    refine (rinv_any y w2).mono ?_
    rintro e w3 ⟨rfl, hb3⟩
    have hbw3 := kept_trans hbw2 hb3
    have hiv : Fld.to (Fld.pow y 2305843009213693949) = Fld.iv (Pl.co bl dg) := by rw [Fld.to_powI, HBL.out]
    obtain ⟨v, hv⟩ : ∃ v, v = Fld.pow y 2305843009213693949 := ⟨_, rfl⟩
    rw [← hv] at hiv ⊢
    have HIV := Lib.hid hiv
    have HPL3 := Lib.hid (HPL.out.below hb3)
    have HPB3 := Lib.hid (HPB2.out.below hb3)
    clear hv hiv hcb2
    obtain ⟨N, hN⟩ : ∃ N, N = n0 + 1 - m := ⟨_, rfl⟩
    have hmk := mk64 N (by omega)
    have t5 : (if (n0 : Int) - (m : Int) + 1 < 0 then (0 : Int) else (n0 : Int) - (m : Int) + 1) = (N : Int) := by split <;> omega
    have HN := Lib.hid hN
    clear hN
    go_wp2
    have hr4 := ar_new w3 (List.replicate N 0)
    have hb4 : Below w3.heap.size w3 (w3.alloc (.cells (u64s (List.replicate N 0)).toArray 23)) := (Below.refl _ w3).alloc (Nat.le_refl _) _
    obtain ⟨w4, hw4⟩ : ∃ w4, w4 = w3.alloc (.cells (u64s (List.replicate N 0)).toArray 23) := ⟨_, rfl⟩
    rw [← hw4] at hr4 hb4 ⊢
    have hgw := hbw3.size
    have hgl := hr4.lt
    obtain ⟨gq, hgq⟩ : ∃ gq, gq = w3.heap.size := ⟨_, rfl⟩
    rw [← hgq] at hr4 hgw hgl ⊢
    have hst : RdmAt w w4 gq N m (some ⟨bb, ob, none⟩) bl (Pl.co a) (Pl.co b) n0 n0 (.slice Al n0 cl) :=
      ⟨Al, cl, l0, Pl.co a, 0, List.replicate N 0, rfl, HPL3.out.1, HPL3.out.2.2.1, HPL3.out.2.2.2, Nat.le_refl _, HIL.out, (HPL3.out.2.1.below hb4).rq (by omega) hb4.size, hr4, List.length_replicate, Pl.sm_zeros N, Pl.co_zeros N, by rw [Pl.zero_mul, Pl.zero_add], fun _ _ => by rw [Pl.co_zeros]; rfl,
        (HPB3.out.2.1.below hb4).rq (by omega) hb4.size, hgw, kept_trans hbw3 hb4⟩
    have HST := Lib.hid hst
    clear hst hr4 hw4 hgq hb4 t1 t2 t3 t4 t5 hmk hbb
    go_loopw [7] (fun lf wr => ∃ n : Nat, RdmAt w wr gq N m (some ⟨bb, ob, none⟩) bl (Pl.co a) (Pl.co b) n0 n lf) (fun lf _ => match lf with | .slice _ n _ => n | _ => 0)
    case atStart => exact ⟨n0, HST.out⟩
    case round =>
      obtain ⟨n, A1, c1, l, S, Q, Lq, rfl, hnl, hnc, hA0, hnn, hiS, hRl, hAq, hLN, hSq, hcQ, hde, hzq, hRb, hwg, hbr⟩ := hrel
      have HR := Lib.hid (And.intro hnl (And.intro hiS (And.intro hRl (And.intro hAq (And.intro hLN (And.intro hSq (And.intro hcQ (And.intro hde (And.intro hzq (And.intro hRb hA0))))))))))
      clear HST hnl hiS hRl hAq hLN hSq hcQ hde hzq hRb hA0
      by_cases hge : m ≤ n
      · obtain ⟨k, hk⟩ : ∃ k, k = n - m := ⟨_, rfl⟩
        obtain ⟨j, hj⟩ : ∃ j, n = j + 1 := ⟨n - 1, by omega⟩
        have hkN : k < N := by have := HN.out; omega
        have s1 : (n : Int) - (m : Int) = (k : Int) := by omega
        have s2 : (n : Int) - 1 = (j : Int) := by omega
        have s3 : (0 : Int) ≤ (j : Int) := by omega
        have s4 : (j : Int) < (n : Int) := by omega
        have s5 : (n : Int) ≤ 100000 := by omega
        have s6 : (0 : Int) ≤ (k : Int) := by omega
        have s7 : (k : Int) < (N : Int) := by omega
        obtain ⟨b1, o1, e1, hb1n, hb1s, hc1⟩ := HR.out.2.2.1.num (k := j) (by rw [← HR.out.1]; omega)
        obtain ⟨x, hx⟩ : ∃ x, x = l[j]?.getD 0 := ⟨_, rfl⟩
        rw [← hx] at hc1
        have hxc : Fld.to x = Pl.co l j := by rw [hx]; rfl
        have HXC := Lib.hid hxc
        have HJ := Lib.hid hj
        have HK := Lib.hid hk
        have hrm := rmul_any x v wr
        have hcl := Fld.mul_lt x v
        have hct : Fld.to (Fld.mul x v) * Pl.co bl dg = Pl.co l j := by
          rw [Fld.to_mulF, hxc, HIV.out]
          have := Fld.mul_iv HDB.out.1
          grind
        obtain ⟨c, hc⟩ : ∃ c, c = Fld.mul x v := ⟨_, rfl⟩
        rw [← hc] at hrm hcl hct
        have HRM := Lib.hid hrm
        have HCT := Lib.hid hct
        clear hx hxc hj hk hrm hc hct
        subst e1
        go_wp2_with fail
        refine HRM.out.mono ?_
        rintro e w5 ⟨rfl, hb5⟩
        have hq5 := HR.out.2.2.2.1.below hb5 HR.out.2.2.2.1.lt
        have hcq := hq5.cell (i := k) (by rw [HR.out.2.2.2.2.1]; exact hkN)
        have hfq := hq5.frozen k
        have HQ5 := Lib.hid hq5
        have HL5 := Lib.hid (HR.out.2.2.1.below hb5)
        have HB5 := Lib.hid (HR.out.2.2.2.2.2.2.2.2.2.1.below hb5)
        have hbw5 : Below w.heap.size w w5 := kept_trans hbr hb5
        clear hq5
        go_wp2
        have hq6 := HQ5.out.set_ k c
        have hg6 : w5.grownBy (w5.setCell ⟨gq, k, none⟩ (.int .u64 (c : Int))) (some gq) := only_set (only_refl w5 (some gq)) k _
        obtain ⟨w6, hw6⟩ : ∃ w6, w6 = w5.setCell ⟨gq, k, none⟩ (.int .u64 (c : Int)) := ⟨_, rfl⟩
        rw [← hw6] at hq6 hg6 ⊢
        have HQ6 := Lib.hid hq6
        have HL6 := Lib.hid (HL5.out.grown hg6)
        have HB6 := Lib.hid (HB5.out.grown hg6)
        have hbw6 : Below w.heap.size w w6 := hbw5.trans (below_only hg6 hwg hbw5.size)
        have hgs6 := hq6.lt
        clear hw6 hq6 hcq hfq hg6 hc1 s2 s3 s4 s6 s7
        have hnil := Gl.nil w6.heap.size w6
        have hbb6 : Below w6.heap.size w6 w6 := Below.refl _ _
        have s8 : (n : Int) = (j : Int) + 1 := by have := HJ.out; omega
        have S8 := Lib.hid s8
        clear s8
        go_loopw [12, 13] (fun o i wr => ∃ t : Nat, i = .int .i64 (t : Int) ∧ t ≤ j ∧ Gl w6.heap.size wr o (Pl.tab (nx l bl k c) t) ∧ Below w6.heap.size w6 wr) (fun _ i _ => j - (intOf i).toNat)
        case atStart => exact ⟨0, rfl, Nat.zero_le _, hnil, hbb6⟩
        case round =>
          obtain ⟨t, rfl, ht, hg, hbt⟩ := hrel
          have HG := Lib.hid hg
          clear hg hnil hbb6
          have hszt := hbt.size
          by_cases hlt : t < j
          · have u1 : (t : Int) + 1 < (n : Int) := by have := S8.out; omega
            obtain ⟨b3, o3, e3, hb3n, hb3s, hc3⟩ := HL6.out.num (k := t) (by have := HR.out.1; have := HJ.out; omega)
            have hc3r := (hbt.cell (p := ⟨b3, o3 + t, none⟩) hb3s).trans hc3
            have htk := Pl.tab_succ (nx l bl k c) t
            have hlen : (Pl.tab (nx l bl k c) t).length ≤ 100000 := by rw [Pl.tab_len]; have := S8.out; omega
            have HLEN := Lib.hid hlen
            obtain ⟨y, hy⟩ : ∃ y, y = l[t]?.getD 0 := ⟨_, rfl⟩
            rw [← hy] at hc3r
            obtain ⟨z, hz⟩ : ∃ z, z = nx l bl k c t := ⟨_, rfl⟩
            rw [← hz] at htk
            have HTK := Lib.hid htk
            have u2 : (t : Int) < (n : Int) := by omega
            have u3 : (0 : Int) ≤ (t : Int) := by omega
            by_cases hkt : k ≤ t
            · obtain ⟨i, hi⟩ : ∃ i, i = t - k := ⟨_, rfl⟩
              have v1 : (t : Int) - (k : Int) = (i : Int) := by omega
              have v2 : (0 : Int) ≤ (i : Int) := by omega
              have v3 : i < m := by have := S8.out; have := HK.out; omega
              have v4 : (i : Int) < (m : Int) := by omega
              obtain ⟨b4, o4, e4, hb4n, hb4s, hc4⟩ := HB6.out.num (k := i) (by have := HPB.out.1; omega)
              have hc4r := (hbt.cell (p := ⟨b4, o4 + i, none⟩) hb4s).trans hc4
              obtain ⟨q, hq⟩ : ∃ q, q = bl[i]?.getD 0 := ⟨_, rfl⟩
              rw [← hq] at hc4r
              have hzz : z = Fld.sub y (Fld.mul c q) := by rw [hz]; unfold nx; rw [if_pos hkt, ← hi, hy, hq]
              have hm1 := rmul_any c q wr
              obtain ⟨r, hr⟩ : ∃ r, r = Fld.mul c q := ⟨_, rfl⟩
              rw [← hr] at hm1 hzz
              have hs1 := fun W => rsub_any y r W
              rw [← hzz] at hs1
              have HM1 := Lib.hid hm1
              have HS1 := Lib.hid hs1
              clear hy hz htk hc3 hlen hi hc4 hq hzz hm1 hr hs1
              injection e4 with e4
              injection e4 with e5 e6
              subst e5 e6
              injection e3 with e3
              injection e3 with e7 e8
              subst e7 e8
              go_wp2_with fail
              refine HM1.out.mono ?_
              rintro e w7 ⟨rfl, hb7⟩
              go_wp2_with fail
              refine (HS1.out _).mono ?_
              rintro e w8 ⟨rfl, rfl⟩
              have hbt7 := kept_trans hbt hb7
              have HG7 := Lib.hid (HG.out.below hb7)
              have hsz7 := hbt7.size
              go_wp2_with (at_builtin; refine wpList_push64 rfl _ _ rfl w6.heap.size z _ _ HG7.out rfl rfl (Nat.le_trans HLEN.out (by omega)) hsz7 ?_; intro u w9 hz1 hb1; have HZ1 := Lib.hid hz1; clear hz1)
              go_roundw
              case rel => exact ⟨t + 1, by go_num, hlt, by rw [HTK.out]; exact HZ1.out, hbt7.trans hb1⟩
              case measure => simp [intOf]; omega
            · have hzz : z = y := by rw [hz]; unfold nx; rw [if_neg hkt, hy]
              subst hzz
              clear hy hz htk hc3 hlen
              injection e3 with e3
              injection e3 with e7 e8
              subst e7 e8
              go_wp2_with (at_builtin; refine wpList_push64 rfl _ _ rfl w6.heap.size z _ _ HG.out rfl rfl (Nat.le_trans HLEN.out (by omega)) hszt ?_; intro u w9 hz1 hb1; have HZ1 := Lib.hid hz1; clear hz1)
              go_roundw
              case rel => exact ⟨t + 1, by go_num, hlt, by rw [HTK.out]; exact HZ1.out, hbt.trans hb1⟩
              case measure => simp [intOf]; omega
          · obtain rfl : t = j := by omega
            have u1 : ¬ (t : Int) + 1 < (n : Int) := by have := S8.out; omega
            have u0 : (t : Int) ≤ 100000 := by have := S8.out; omega
            have hco := Pl.nx_co HR.out.1.symm (HPB.out.1.symm.trans HDG.out) (show n = k + dg + 1 by have := HK.out; have := HDG.out; omega) HJ.out HCT.out
            rw [HR.out.2.1.2] at hco
            obtain ⟨A7, c7, rfl, hp7, _⟩ := HG.out.pt
            have hl7 := Pl.tab_len (nx l bl k c) t
            obtain ⟨L7, hL7⟩ : ∃ L7, L7 = Pl.tab (nx l bl k c) t := ⟨_, rfl⟩
            rw [← hL7] at hco hp7 hl7 ⊢
            obtain ⟨n7, hn7⟩ : ∃ n7, n7 = L7.length := ⟨_, rfl⟩
            rw [← hn7] at hp7 hl7 ⊢
            have htr := rtrim_any A7 n7 c7 L7 wr hn7 (by have := S8.out; omega) hp7.2.1
            rw [hco] at htr
            have HTR := Lib.hid htr
            have hlts : Pl.Lt (S - Pl.C (Fld.to c) * Pl.shn k (Pl.co bl)) t := hco ▸ (Pl.Lt.co L7).mono (by omega)
            have HLTS := Lib.hid hlts
            clear hL7 hco hp7 htr HG hl7 hn7 hlts
            go_wp2_with fail
            refine HTR.out.mono ?_
            rintro e w8 ⟨⟨A8, n8, c8, l8, rfl, hp8, hi8, hf8⟩, hb8⟩
            have hbt8 := hbt.trans (hb8.mono hszt)
            have hn8 : n8 ≤ t := by
              have h := hi8.1.len (n := t) (hi8.2.symm ▸ HLTS.out)
              have := hp8.1
              omega
            have H8 := Lib.hid (And.intro hp8 (And.intro hi8 hf8))
            have HQ8 := Lib.hid (HQ6.out.below hbt8 hgs6)
            have HB8 := Lib.hid (HB6.out.below hbt8)
            clear hp8 hi8 hf8
            go_wp2
            go_roundw
            case rel =>
              obtain ⟨hp8, hi8, hf8⟩ := H8.out
              refine ⟨n8, A8, c8, l8, _, _, _, rfl, hp8.1, hp8.2.2.1, hp8.2.2.2, by have := HJ.out; omega, hi8, fun hp => ?_, HQ8.out, by rw [List.length_set]; exact HR.out.2.2.2.2.1, ?_, rfl, ?_, ?_, HB8.out, hwg, hbw6.trans (hbt8.mono hbw6.size)⟩
              · obtain ⟨b, o, e, h1, h2⟩ := hp8.2.1 hp
                exact ⟨b, o, e, by have := hf8 b o e; omega, h1, h2⟩
              · exact Pl.Sm.set_ HR.out.2.2.2.2.2.1 k (by omega)
              · rw [Pl.co_put (by rw [HR.out.2.2.2.2.1]; exact hkN) (HR.out.2.2.2.2.2.2.2.2.1 k (by have := HK.out; omega)), HR.out.2.2.2.2.2.2.1, HIB.out.2]
                exact Pl.quo_step HR.out.2.2.2.2.2.2.2.1
              · intro i hi
                rw [Pl.co_set (by rw [HR.out.2.2.2.2.1]; exact hkN), if_neg (by have := HK.out; have := HJ.out; omega)]
                exact HR.out.2.2.2.2.2.2.2.2.1 i (by have := HJ.out; omega)
            case measure => simp; have := HJ.out; omega
      · obtain ⟨hnl, hiS, hRl, hAq, hLN, hSq, hcQ, hde, hzq, hRb, hA0⟩ := HR.out
        have hlt : n < m := by omega
        have htr := rtrim_any (some ⟨gq, 0, none⟩) N N Lq wr hLN.symm (by have := HN.out; omega) (hAq.rd hAq.lt)
        rw [hcQ] at htr
        have HTR := Lib.hid htr
        clear hnl hiS hRl hAq hLN hSq hcQ hde hzq hRb hA0 htr
        go_wp2_with fail
        refine HTR.out.mono ?_
        rintro e w8 ⟨hp8, hb8⟩
        have hbw8 := kept_trans hbr hb8
        have hbne : Pl.co b ≠ 0 := fun h => by have := HZ.out.2 h; omega
        have hdm : Pl.DM (Pl.co a) (Pl.co b) Q S := by
          refine ⟨HR.out.2.2.2.2.2.2.1 ▸ Pl.Po.co _, HR.out.2.1.2 ▸ Pl.Po.co _, HR.out.2.2.2.2.2.2.2.1, fun d hd => ?_⟩
          have hd2 := HDB.out
          rw [HIB.out.2] at hd2
          obtain rfl := hd.uniq hd2
          rw [← HR.out.2.1.2]
          exact (Pl.Lt.co l).mono (by have := HR.out.1; have := HDG.out; omega)
        have hlt2 := dm_lt hdm (Pl.Po.co b) hbne HLA.out
        obtain ⟨z, rfl, hz⟩ := Tv.mk hp8 hlt2.1
        have hS8 : Tv w8 (.slice A1 n c1) S na := ⟨A1, n, c1, l, rfl, ⟨HR.out.1, (HR.out.2.2.1.below hb8).rd, hnc, HR.out.2.2.2.2.2.2.2.2.2.2⟩, HR.out.2.1, by omega⟩
        have H8 := Lib.hid (And.intro hz (And.intro hS8 (And.intro hdm hbne)))
        clear hz hS8 hdm hlt2 hbne hp8
        go_wp2
        go_ret2
        exact ⟨⟨fun h => absurd h H8.out.2.2.2, fun _ => ⟨z, _, Q, S, rfl, H8.out.1, H8.out.2.1, H8.out.2.2.1⟩⟩, hbw8⟩
end Go.Proofs.Ytalljoneflepiaa

namespace Go.Proofs.Ytalljoneflepiaa
open Go.RowKit

theorem rdivmod_v {w : World} {o o2 : Value} {s t : Pl} {d k : Nat} (h : Qv w o s d) (h' : Qv w o2 t k) (hd : d ≤ 100000) (hk : k ≤ 100000) :
    Calls Try.prog 25 #[o, o2] w fun e w' => RdT s t d e w' ∧ Below w.heap.size w w' := by
  obtain ⟨A, n, c, l, rfl, h1, h2, h3, rfl⟩ := h
  obtain ⟨A', n', c', l', rfl, h1', h2', h3', rfl⟩ := h'
  refine (rdivmod_any A A' n c n' c' l l' w h1.1 h1'.1 (by omega) (by omega) h1.2.1 h1'.2.1).mono ?_
  rintro e w' ⟨⟨g1, g2⟩, hb⟩
  refine ⟨⟨g1, fun h0 => ?_⟩, hb⟩
  obtain ⟨z, z2, q, r, e1, ⟨A1, n1, c1, l1, e2, p1, i1, b1⟩, ⟨A2, n2, c2, l2, e3, p2, i2, b2⟩, hdm⟩ := g2 h0
  exact ⟨z, z2, q, r, e1, ⟨A1, n1, c1, l1, e2, p1, i1, by omega⟩, ⟨A2, n2, c2, l2, e3, p2, i2, by omega⟩, hdm⟩

/-- What the reference's Gcd keeps. -/
def RgAt (w wr : World) (A B : Pl) (d ny : Nat) (a b : Value) : Prop := ∃ X Y, Tv wr a X d ∧ Tv wr b Y d ∧ (∃ P c, b = .slice P ny c) ∧ (∀ D, Pl.Po D → ((Pl.Dv D X ∧ Pl.Dv D Y) ↔ (Pl.Dv D A ∧ Pl.Dv D B))) ∧ Below w.heap.size w wr
theorem Tv.wide {w : World} {o : Value} {s : Pl} {d k : Nat} (h : Tv w o s d) (hk : d ≤ k) : Tv w o s k := by
  obtain ⟨A, n, c, l, e, h1, h2, h3⟩ := h
  exact ⟨A, n, c, l, e, h1, h2, by omega⟩

set_option maxRecDepth 100000 in
set_option maxHeartbeats 4000000 in
theorem rgcd_v {w : World} {o o2 : Value} {s t : Pl} {d k : Nat} (h : Qv w o s d) (h' : Qv w o2 t k) (hd : d ≤ 100000) (hk : k ≤ 100000) :
    Calls Try.prog 27 #[o, o2] w fun e w' => (∃ z g, e = .returned z ∧ Tv w' z g (max d k) ∧ Pl.Gc s t g) ∧ Below w.heap.size w w' := by
  have hls := h.lt
  have hlt := h'.lt
  have H := Lib.hid h
  have H' := Lib.hid h'
  have HLS := Lib.hid hls
  have HLT := Lib.hid hlt
  clear h h' hls hlt
  go_enter Try.func27, Try.ntmps27
  go_wp2_with fail
  refine (rtrim_v H.out hd).mono ?_
  rintro e w1 ⟨⟨x, rfl, hx⟩, hb1⟩
  have HX := Lib.hid hx
  clear hx
  go_wp2_with fail
  refine (rtrim_v (H'.out.below hb1) hk).mono ?_
  rintro e w2 ⟨⟨y, rfl, hy⟩, hb2⟩
  have hbw := kept_trans hb1 hb2
  obtain ⟨Ay, ny, cy, rfl, -⟩ := hy.open_
  have hst : RgAt w w2 s t (max d k) ny x (.slice Ay ny cy) := ⟨s, t, (HX.out.below hb2).wide (Nat.le_max_left d k), hy.wide (Nat.le_max_right d k), ⟨Ay, cy, rfl⟩, fun D _ => Iff.rfl, hbw⟩
  have HST := Lib.hid hst
  clear hst hy hb1 hb2 hbw
  go_wp2
  go_loopw [5, 6] (fun a b wr => ∃ n : Nat, RgAt w wr s t (max d k) n a b) (fun _ b _ => match b with | .slice _ n _ => n | _ => 0)
  case atStart => exact ⟨ny, HST.out⟩
  case round =>
    obtain ⟨n, X, Y, hX, hY, ⟨P, c, rfl⟩, hdv, hbr⟩ := hrel
    clear HST
    obtain ⟨Ae, ne, ce, e1, hnd, hY0, hYd⟩ := hY.open_
    injection e1 with e0 e1 e2
    subst e0 e1 e2
    rcases Nat.eq_zero_or_pos n with h0 | h0
    · have hYz := hY0.1 h0
      obtain ⟨Ax, nx, cx, l, rfl, hp, hi, hnx⟩ := hX
      have hg := gc_end (A := s) (B := t) hi.1 hi.2 (by rw [← hYz]; exact hdv)
      have HG := Lib.hid hg
      have HP := Lib.hid (And.intro hp hi)
      clear hY hdv hYz hY0 hYd hg hp hi
      subst h0
      rcases Nat.eq_zero_or_pos nx with h1 | h1
      · have hX0 : X = 0 := by
          rw [← HP.out.2.2]
          exact HP.out.2.1.len_zero.1 (by rw [← HP.out.1.1]; exact h1)
        have HX0 := Lib.hid hX0
        clear hX0
        subst h1
        go_wp2
        go_ret
        refine ⟨⟨_, 0, rfl, Tv.nil _ _, ?_⟩, hbr⟩
        have h := HG.out
        rwa [HX0.out, Pl.mul_zero] at h
      · obtain ⟨j, hj⟩ : ∃ j, nx = j + 1 := ⟨nx - 1, by omega⟩
        have t1 : ((nx : Int) == 0) = false := by rw [beq_eq_false_iff_ne]; omega
        have t2 : (nx : Int) - 1 = (j : Int) := by omega
        have t3 : (0 : Int) ≤ (j : Int) := by omega
        have t4 : (j : Int) < (nx : Int) := by omega
        have t5 : (nx : Int) ≤ 100000 := by omega
        obtain ⟨b, off, e2, hb, hc⟩ := HP.out.1.2.1.num (k := j) (by have := HP.out.1.1; omega)
        have hld : lead l = l[j]?.getD 0 := by unfold lead; rw [show l.length - 1 = j by have := HP.out.1.1; omega]
        obtain ⟨y, hy⟩ : ∃ y, y = l[j]?.getD 0 := ⟨_, rfl⟩
        rw [← hy] at hc hld
        have HLD := Lib.hid hld
        clear hy hld hj
        subst e2
        go_wp2_with fail
        refine (rinv_any y wr).mono ?_
        rintro e w3 ⟨rfl, hb3⟩
        have hiv : Fld.to (Fld.pow y 2305843009213693949) = Fld.iv (Fld.to y) := Fld.to_powI y
        obtain ⟨v, hv⟩ : ∃ v, v = Fld.pow y 2305843009213693949 := ⟨_, rfl⟩
        rw [← hv] at hiv ⊢
        have hsc := rscale_poly (some ⟨b, off, none⟩) nx cx v l w3 HP.out.1.1 (by omega) (HP.out.1.below hb3).2.1
        rw [hiv, HP.out.2.2] at hsc
        have HSC := Lib.hid hsc
        clear hv hiv hsc
        go_wp2_with fail
        refine HSC.out.mono ?_
        rintro e w4 ⟨hp4, hb4⟩
        have hg := HG.out
        rw [HLD.out] at hg
        obtain ⟨z, rfl, hz⟩ := Tv.mk hp4 (gcd_lt hg HLS.out HLT.out)
        have HZ := Lib.hid (And.intro hz hg)
        have hbw4 := kept_trans hbr (kept_trans hb3 hb4)
        clear hz hg hp4
        go_wp2
        go_ret
        exact ⟨⟨z, _, rfl, HZ.out.1, HZ.out.2⟩, hbw4⟩
    · have t1 : (0 : Int) < (n : Int) := by omega
      have hYne : Y ≠ 0 := fun h => by have := hY0.2 h; omega
      have HX := Lib.hid hX
      have HY := Lib.hid hY
      have HDV := Lib.hid hdv
      have HYD := Lib.hid hYd
      have HYN := Lib.hid hYne
      clear hX hY hdv hY0 hYd hYne
      go_wp2_with fail
      refine (rdivmod_v HX.out.q HY.out.q (by omega) (by omega)).mono ?_
      rintro e w3 ⟨hrd, hb3⟩
      obtain ⟨z, z2, q, r, rfl, hz, hz2, hdm⟩ := hrd.2 HYN.out
      obtain ⟨m, hm⟩ := HY.out.q.po.dg HYN.out
      have hnm := HYD.out m hm
      obtain ⟨A3, n3, c3, rfl, hn3, -⟩ := (hz2.less (hdm.2.2.2 m hm)).open_
      have hbw3 := kept_trans hbr hb3
      have HZ2 := Lib.hid (And.intro hz2 hdm)
      have HY3 := Lib.hid (HY.out.below hb3)
      have hlt3 : n3 < n := by omega
      clear hrd hz hz2 hdm hm hnm hn3
      go_wp2
      go_roundw
      case rel =>
        refine ⟨n3, Y, r, HY3.out, HZ2.out.1, ⟨A3, c3, rfl⟩, fun D hD => ?_, hbw3⟩
        rw [← HDV.out D hD, ← Pl.Dv.left HZ2.out.2.1 HZ2.out.2.2.2.1]
      case measure => simp; omega

/-- The product of x less each root, from the first on. -/
def Pl.prodL (l : List Nat) (k : Nat) : Pl := match k with
  | 0 => Pl.C 1
  | k + 1 => Pl.prodL l k * Pl.lin (Pl.co l k)
theorem Pl.prodR_take (l : List Nat) : ∀ k, k ≤ l.length → Pl.prodR (l.take k) = Pl.prodL l k
  | 0, _ => rfl
  | k + 1, h => by
    rw [take_next (by omega), Pl.prodL, ← Pl.prodR_take l k (by omega)]
    have hs : ∀ (a : List Nat) (x : Nat), Pl.prodR (a ++ [x]) = Pl.prodR a * Pl.lin (Fld.to x) := by
      intro a x
      induction a with
      | nil => show Pl.lin (Fld.to x) * Pl.C 1 = Pl.C 1 * Pl.lin (Fld.to x); rw [Pl.mul_comm]
      | cons y a ih => show Pl.lin (Fld.to y) * Pl.prodR (a ++ [x]) = Pl.lin (Fld.to y) * Pl.prodR a * Pl.lin (Fld.to x); rw [ih, Pl.mul_assoc]
    rw [hs]
    rfl
theorem Pl.Dg.prodR : ∀ l : List Nat, Pl.Dg (Pl.prodR l) l.length ∧ Pl.prodR l l.length = 1
  | [] => ⟨⟨Fld.one_ne, Pl.Lt.C 1⟩, rfl⟩
  | r :: l => by
    have h := Pl.Dg.prodR l
    have hd := (Pl.Dg.lin (Fld.to r)).mul h.1
    rw [Nat.add_comm] at hd
    refine ⟨hd, ?_⟩
    have ht := Pl.top_mul (Pl.Dg.lin (Fld.to r)).2 h.1.2
    rw [h.2, Nat.add_comm] at ht
    show (Pl.lin (Fld.to r) * Pl.prodR l) (l.length + 1) = 1
    rw [ht]
    show (Pl.X - Pl.C (Fld.to r)) 1 * 1 = 1
    rw [Pl.sub_at, Pl.C_s]
    show (1 - 0) * 1 = (1 : Fld.F)
    decide +kernel

set_option maxRecDepth 100000 in
set_option maxHeartbeats 4000000 in
theorem rof_poly (A : Option Addr) (n ca : Nat) (a : List Nat) (w : World) (hn : n = a.length) (hn9 : n ≤ 1000) (hA : Rd w.heap.size w A (u64s a)) :
    Calls Try.prog 32 #[.slice A n ca] w fun e w' => (∃ z, e = .returned z ∧ Tv w' z (Pl.prodR a) (n + 1)) ∧ Below w.heap.size w w' := by
  have HN := Lib.hid hn
  have HA := Lib.hid hA
  clear hn hA
  have h0 : Tv (w.alloc (.cells #[.int .u64 1] 23)) (.slice (some ⟨w.heap.size, 0, none⟩) 1 1) (Pl.prodL a 0) (0 + 1) :=
    ⟨_, 1, 1, [1], rfl, ⟨rfl, rd_news w [1], Nat.le_refl _, fun e => by cases e⟩, ⟨⟨by intro x hx; rw [List.mem_singleton.1 hx]; omega, .inr (by decide)⟩, co_one 1⟩, Nat.le_refl _⟩
  have hb0 : Below w.heap.size w (w.alloc (.cells #[.int .u64 1] 23)) := (Below.refl _ w).alloc (Nat.le_refl _) _
  have H0 := Lib.hid h0
  clear h0
  go_enter Try.func32, Try.ntmps32
  go_wp2
  go_loopw [3, 4] (fun o i wr => ∃ k : Nat, i = .int .i64 (k : Int) ∧ k ≤ n ∧ Tv wr o (Pl.prodL a k) (k + 1) ∧ Below w.heap.size w wr) (fun _ i _ => n - (intOf i).toNat)
  case atStart => exact ⟨0, rfl, Nat.zero_le _, H0.out, hb0⟩
  case round =>
    obtain ⟨k, rfl, hk, ho, hb⟩ := hrel
    have HO := Lib.hid ho
    have hsz := hb.size
    clear ho hb0 H0
    by_cases hlt : k < n
    · obtain ⟨bl, off, e1, hbb, hcl⟩ := HA.out.num (k := k) (by rw [← HN.out]; exact hlt)
      have hcr := (hb.cell (p := ⟨bl, off + k, none⟩) hbb).trans hcl
      obtain ⟨x, hx⟩ : ∃ x, x = a[k]?.getD 0 := ⟨_, rfl⟩
      rw [← hx] at hcr
      have hxc : Fld.to x = Pl.co a k := by rw [hx]; rfl
      have hro := Pl.co_root x
      have hsl := Fld.sub_lt 0 x
      have hsb := rsub_any 0 x wr
      rw [show ((0 : Nat) : Int) = 0 from rfl] at hsb
      obtain ⟨y, hy⟩ : ∃ y, y = Fld.sub 0 x := ⟨_, rfl⟩
      rw [← hy] at hro hsl hsb
      rw [hxc] at hro
      have HRO := Lib.hid hro
      have HSB := Lib.hid hsb
      clear hx hxc hro hsb hy hcl
      subst e1
      go_wp2_with fail
      refine HSB.out.mono ?_
      rintro e w1 ⟨rfl, rfl⟩
      go_wp2_with fail
      have hq : Qv (wr.alloc (.cells #[.int .u64 (y : Int), .int .u64 1] 23)) (.slice (some ⟨wr.heap.size, 0, none⟩) 2 2) (Pl.lin (Pl.co a k)) 2 :=
        ⟨_, 2, 2, [y, 1], rfl, ⟨rfl, rd_news wr [y, 1], Nat.le_refl _, fun e => by cases e⟩, by intro z hz; simp at hz; omega, Nat.le_refl _, HRO.out⟩
      refine (rmul_v (HO.out.new _).q hq (by omega) (by omega)).mono ?_
      rintro e w2 ⟨⟨z, rfl, hz⟩, hb2⟩
      have hb3 := hb.trans ((below_new hb2).mono hsz)
      have hz2 : Tv w2 z (Pl.prodL a (k + 1)) (k + 1 + 1) := by
        have e : Pl.prodL a (k + 1) = Pl.prodL a k * Pl.lin (Pl.co a k) := rfl
        rw [e]
        refine hz.less ?_
        have hd := (Pl.Dg.prodR (a.take (k + 1))).1.2
        rw [Pl.prodR_take a (k + 1) (by rw [← HN.out]; exact hlt), List.length_take, Nat.min_eq_left (by rw [← HN.out]; exact hlt)] at hd
        exact hd
      have HZ := Lib.hid hz2
      clear hz hz2 hq hb2
      go_wp2
      go_roundw
      case rel => exact ⟨k + 1, by go_num, hlt, HZ.out, hb3⟩
      case measure => simp [intOf]; omega
    · have hkn : k = n := by omega
      subst hkn
      go_wp2
      go_ret
      have h := Pl.prodR_take a k (by rw [← HN.out]; exact Nat.le_refl _)
      rw [List.take_of_length_le (by rw [← HN.out]; exact Nat.le_refl _)] at h
      exact ⟨⟨_, rfl, HO.out.to h.symm⟩, hb⟩
end Go.Proofs.Ytalljoneflepiaa

namespace Go.Proofs.Ytalljoneflepiaa
open Go.RowKit

theorem rscale_v {w : World} {o : Value} {s : Pl} {d : Nat} (h : Qv w o s d) (hd : d ≤ 100000) (t : Nat) : Calls Try.prog 34 #[o, .int .u64 (t : Int)] w fun e w' => (∃ z, e = .returned z ∧ Tv w' z (Pl.C (Fld.to t) * s) d) ∧ Below w.heap.size w w' := by
  have hl := h.lt
  obtain ⟨A, n, c, l, rfl, h1, h2, h3, rfl⟩ := h
  exact (rscale_poly A n c t l w h1.1 (by omega) h1.2.1).mono fun e w' ⟨g, b⟩ => ⟨Tv.mk g (Pl.Lt.smul _ hl), b⟩
namespace Pl
open Fld (F iv)
/-- What is known behind i rounds. -/
structure RfI (xs ys : List Nat) (n i : Nat) (S : Pl) : Prop where
  lt : Lt S n
  vs : ∀ j, j < n → val S (co xs j) = if j < i then co ys j else 0
  ds : ∀ a, a < i → ∀ b, b < n → b ≠ a → co xs a ≠ co xs b
/-- What is known of one part behind k rounds. -/
structure RfK (xs ys : List Nat) (i k : Nat) (T : Pl) : Prop where
  lt : Lt T (k + 1 - (if i < k then 1 else 0))
  own : val T (co xs i) = co ys i
  vs : ∀ j, j < k → j ≠ i → val T (co xs j) = 0
  ds : ∀ b, b < k → b ≠ i → co xs i ≠ co xs b
theorem RfI.start (xs ys : List Nat) (n : Nat) : RfI xs ys n 0 0 := ⟨Lt.zero n, fun j _ => by rw [val_zero, if_neg (Nat.not_lt_zero j)], fun a h => absurd h (Nat.not_lt_zero a)⟩
theorem RfK.start (xs ys : List Nat) (i : Nat) : RfK xs ys i 0 (C (co ys i)) := ⟨by rw [if_neg (Nat.not_lt_zero i)]; exact Lt.C _, val_C _ _, fun j h => absurd h (Nat.not_lt_zero j), fun j h => absurd h (Nat.not_lt_zero j)⟩
theorem RfK.skip {xs ys : List Nat} {i : Nat} {T : Pl} (h : RfK xs ys i i T) : RfK xs ys i (i + 1) T :=
  ⟨by have h1 := h.lt; rw [if_neg (Nat.lt_irrefl i)] at h1; rw [if_pos (Nat.lt_succ_self i)]; exact h1, h.own, fun j hj hne => h.vs j (by omega) hne, fun j hj hne => h.ds j (by omega) hne⟩
theorem RfK.step {xs ys : List Nat} {i k : Nat} {T : Pl} (h : RfK xs ys i k T) (hk : k ≠ i) (hd : co xs i - co xs k ≠ 0) : RfK xs ys i (k + 1) (C (iv (co xs i - co xs k)) * (T * lin (co xs k))) := by
  have pT : Po T := ⟨_, h.lt⟩
  have hv : ∀ x, val (C (iv (co xs i - co xs k)) * (T * lin (co xs k))) x = iv (co xs i - co xs k) * (val T x * (x - co xs k)) := fun x => by
    rw [val_smul _ (pT.mul (Po.lin _)), val_mul pT (Po.lin _), val_lin]
  refine ⟨Lt.smul _ ?_, ?_, fun j hj hne => ?_, fun b hb hne => ?_⟩
  · rw [mul_comm, lin_mul]
    have h1 := h.lt.sh.sub ((Lt.smul (co xs k) h.lt).mono (Nat.le_succ _))
    refine h1.mono ?_
    split <;> split <;> omega
  · rw [hv, h.own]
    have := Fld.mul_iv hd
    grind
  · rw [hv]
    rcases Nat.lt_or_ge j k with h1 | h1
    · rw [h.vs j h1 hne]; grind
    · obtain rfl : j = k := by omega
      grind
  · rcases Nat.lt_or_ge b k with h1 | h1
    · exact h.ds b h1 hne
    · obtain rfl : b = k := by omega
      intro e
      exact hd (by rw [e]; exact Fin.sub_self)
theorem RfI.step {xs ys : List Nat} {n i : Nat} {S T : Pl} (h : RfI xs ys n i S) (hk : RfK xs ys i n T) (hi : i < n) : RfI xs ys n (i + 1) (S + T) := by
  have hl := hk.lt
  rw [if_pos hi] at hl
  refine ⟨h.lt.add (hl.mono (by omega)), fun j hj => ?_, fun a ha b hb hne => ?_⟩
  · rw [val_add ⟨_, h.lt⟩ ⟨_, hl⟩, h.vs j hj]
    by_cases h1 : j = i
    · subst h1
      rw [if_neg (Nat.lt_irrefl j), if_pos (Nat.lt_succ_self j), hk.own]; grind
    · rw [hk.vs j hj h1]
      by_cases h2 : j < i
      · rw [if_pos h2, if_pos (by omega)]; grind
      · rw [if_neg h2, if_neg (by omega)]; exact Fin.add_zero 0
  · rcases Nat.lt_or_ge a i with h1 | h1
    · exact h.ds a h1 b hb hne
    · obtain rfl : a = i := by omega
      exact hk.ds b hb hne
theorem RfI.fi {xs ys : List Nat} {n : Nat} {S : Pl} (h : RfI xs ys n n S) : Fi xs ys n S ∧ Dis xs n :=
  ⟨⟨h.lt, fun j hj => by rw [h.vs j hj, if_pos hj]⟩, fun i j hij hj => h.ds i (by omega) j hj (by omega)⟩
end Pl

/-- What the reference's From tells. -/
def RfT (n : Nat) (xs ys : List Nat) (e : Ending) (w' : World) : Prop := (Pl.Dis xs n → ∃ z s, e = .returned z ∧ Tv w' z s n ∧ Pl.Fi xs ys n s) ∧ (¬ Pl.Dis xs n → e = .returned (.slice none 0 0))
/-- What it keeps. -/
def RoAt (w wr : World) (xs ys : List Nat) (n i : Nat) (o : Value) : Prop := ∃ S, Tv wr o S n ∧ Pl.RfI xs ys n i S ∧ Below w.heap.size w wr
def RpAt (w wr : World) (xs ys : List Nat) (n i k : Nat) (p : Value) : Prop := ∃ T, Qv wr p T (n + 1) ∧ Pl.RfK xs ys i k T ∧ Below w.heap.size w wr

set_option maxRecDepth 100000 in
set_option maxHeartbeats 8000000 in
theorem rfrom_same (A A2 : Option Addr) (n ca cb : Nat) (xs ys : List Nat) (w : World) (hn : n = xs.length) (hm : n = ys.length) (hn9 : n ≤ 1000) (hy : ∀ y ∈ ys, y < 18446744073709551616) (hA : Rd w.heap.size w A (u64s xs)) (hA2 : Rd w.heap.size w A2 (u64s ys)) :
    Calls Try.prog 30 #[.slice A n ca, .slice A2 n cb] w fun e w' => RfT n xs ys e w' ∧ Below w.heap.size w w' := by
  have HN := Lib.hid hn
  have HM := Lib.hid hm
  have HY := Lib.hid hy
  have HA := Lib.hid hA
  have HA2 := Lib.hid hA2
  have h0 : RoAt w w xs ys n 0 (.slice none 0 0) := ⟨0, Tv.nil w n, Pl.RfI.start xs ys n, Below.refl _ _⟩
  have H0 := Lib.hid h0
  clear hn hm hy hA hA2 h0
  go_enter Try.func30, Try.ntmps30
  go_wp2
  go_loopw [5, 6] (fun o i wr => ∃ t : Nat, i = .int .i64 (t : Int) ∧ t ≤ n ∧ RoAt w wr xs ys n t o) (fun _ i _ => n - (intOf i).toNat)
  case atStart => exact ⟨0, rfl, Nat.zero_le _, H0.out⟩
  case round =>
    obtain ⟨i, rfl, hi, S, hS, hRI, hbw⟩ := hrel
    have HS := Lib.hid hS
    have HRI := Lib.hid hRI
    clear hS hRI H0
    by_cases hlt : i < n
    · obtain ⟨b1, o1, e1, hb1, hc1⟩ := HA2.out.num (k := i) (by rw [← HM.out]; exact hlt)
      obtain ⟨b0, o0, e0, hb0, hc0⟩ := HA.out.num (k := i) (by rw [← HN.out]; exact hlt)
      obtain ⟨wo, hwo⟩ : ∃ wo, wo = wr := ⟨_, rfl⟩
      rw [← hwo] at HS hbw ⊢
      have hc1r := (hbw.cell (p := ⟨b1, o1 + i, none⟩) hb1).trans hc1
      obtain ⟨y, hyy⟩ : ∃ y, y = ys[i]?.getD 0 := ⟨_, rfl⟩
      rw [← hyy] at hc1r
      have hyc : Fld.to y = Pl.co ys i := by rw [hyy]; rfl
      have hy64 : y < 18446744073709551616 := by rw [hyy]; exact get_big HY.out i
      obtain ⟨x, hx⟩ : ∃ x, x = xs[i]?.getD 0 := ⟨_, rfl⟩
      rw [← hx] at hc0
      have hxc : Fld.to x = Pl.co xs i := by rw [hx]; rfl
      have HXC := Lib.hid hxc
      have HYC := Lib.hid hyc
      have HC0 := Lib.hid hc0
      clear hwo hc1 hyy hyc hx hxc hc0
      subst e1 e0
      go_wp2
      have hp0 : RpAt wo (wo.alloc (.cells #[.int .u64 (y : Int)] 23)) xs ys n i 0 (.slice (some ⟨wo.heap.size, 0, none⟩) 1 1) :=
        ⟨_, ⟨_, 1, 1, [y], rfl, ⟨rfl, rd_news wo [y], Nat.le_refl _, fun e => by cases e⟩, by intro z hz; rw [List.mem_singleton.1 hz]; exact hy64, by omega, (co_one y).trans (by rw [HYC.out])⟩, Pl.RfK.start xs ys i, (Below.refl _ wo).alloc (Nat.le_refl _) _⟩
      have HP0 := Lib.hid hp0
      clear hp0 hc1r
      go_loopw [7, 8] (fun p k wr => ∃ t : Nat, k = .int .i64 (t : Int) ∧ t ≤ n ∧ RpAt wo wr xs ys n i t p) (fun _ k _ => n - (intOf k).toNat)
      case atStart => exact ⟨0, rfl, Nat.zero_le _, HP0.out⟩
      case round =>
        obtain ⟨k, rfl, hk, T, hT, hRK, hbk⟩ := hrel
        have HT := Lib.hid hT
        have HRK := Lib.hid hRK
        clear hT hRK HP0
        have hbwk := kept_trans hbw hbk
        by_cases hlk : k < n
        · by_cases hki : k = i
          · subst hki
            have t1 : ((k : Int) == (k : Int)) = true := by simp
            go_wp2
            go_roundw
            case rel => exact ⟨k + 1, by go_num, hlk, T, HT.out, HRK.out.skip, hbk⟩
            case measure => simp [intOf]; omega
          · have t1 : ((k : Int) == (i : Int)) = false := by rw [beq_eq_false_iff_ne]; omega
            obtain ⟨b2, o2, e2, hb2, hc2⟩ := HA.out.num (k := k) (by rw [← HN.out]; exact hlk)
            injection e2 with e2
            injection e2 with e3 e4
            subst e3 e4
            have hci := (hbwk.cell (p := ⟨b0, o0 + i, none⟩) hb0).trans HC0.out
            have hck := (hbwk.cell (p := ⟨b0, o0 + k, none⟩) hb0).trans hc2
            obtain ⟨xk, hxk⟩ : ∃ xk, xk = xs[k]?.getD 0 := ⟨_, rfl⟩
            rw [← hxk] at hck
            have hxkc : Fld.to xk = Pl.co xs k := by rw [hxk]; rfl
            have hsl := Fld.sub_lt x xk
            have hq := quiet_same (rsub_any x xk)
            have hdc : Fld.to (Fld.sub x xk) = Pl.co xs i - Pl.co xs k := by rw [Fld.to_subF, HXC.out, hxkc]
            obtain ⟨d, hd⟩ : ∃ d, d = Fld.sub x xk := ⟨_, rfl⟩
            rw [← hd] at hsl hq hdc
            have HXKC := Lib.hid hxkc
            have HQ := Lib.hid hq
            have HDC := Lib.hid hdc
            have q1 : (0 : Int) ≤ (i : Int) := by omega
            have q2 : (i : Int) < (n : Int) := by omega
            have q3 : (0 : Int) ≤ (k : Int) := by omega
            have q4 : (k : Int) < (n : Int) := by omega
            clear hc2 hxk hxkc hd hq hdc
            go_wp2
            go_quiet ((go_at_call 53; exact quiet_any HQ.out))
            rename_i nq
            obtain ⟨w5, hw5⟩ : ∃ w5, w5 = wr.drewN nq := ⟨_, rfl⟩
            rw [← hw5]
            have hb5 : Below wr.heap.size wr w5 := by rw [hw5]; exact below_drewN (Below.refl _ _) _
            have hck5 := (hb5.cell (p := ⟨b0, o0 + k, none⟩) (by show b0 < wr.heap.size; have := hbwk.size; omega)).trans hck
            clear hw5 hck hci
            rcases Nat.eq_zero_or_pos d with h0 | h0
            · have hnd : ¬ Pl.Dis xs n := by
                intro hD
                have he : Pl.co xs i = Pl.co xs k := by
                  have h1 := HDC.out
                  rw [h0] at h1
                  have h2 : (0 : Fld.F) = Pl.co xs i - Pl.co xs k := h1
                  grind
                rcases Nat.lt_or_ge i k with h1 | h1
                · exact hD i k h1 hlk he
                · exact hD k i (by omega) hlt he.symm
              have HND := Lib.hid hnd
              clear hnd hck5
              subst h0
              go_wp2
              go_ret
              exact ⟨⟨fun h => absurd h HND.out, fun _ => rfl⟩, kept_trans hbwk hb5⟩
            · have t2 : ((d : Int) == 0) = false := by rw [beq_eq_false_iff_ne]; omega
              have hdne : Pl.co xs i - Pl.co xs k ≠ 0 := by rw [← HDC.out]; exact fun h => by have := (Pl.to_eq_zero hsl).1 h; omega
              have HDNE := Lib.hid hdne
              have hro := Pl.co_root xk
              have hyl := Fld.sub_lt 0 xk
              have hsb := rsub_any 0 xk w5
              rw [show ((0 : Nat) : Int) = 0 from rfl] at hsb
              obtain ⟨v, hv⟩ : ∃ v, v = Fld.sub 0 xk := ⟨_, rfl⟩
              rw [← hv] at hro hyl hsb
              rw [HXKC.out] at hro
              have HRO := Lib.hid hro
              have HSB := Lib.hid hsb
              have HT5 := Lib.hid (HT.out.below hb5)
              clear hdne hro hsb hv
              go_wp2_with fail
              refine HSB.out.mono ?_
              rintro e w6 ⟨rfl, rfl⟩
              go_wp2_with fail
              have hqv : Qv (w5.alloc (.cells #[.int .u64 (v : Int), .int .u64 1] 23)) (.slice (some ⟨w5.heap.size, 0, none⟩) 2 2) (Pl.lin (Pl.co xs k)) 2 :=
                ⟨_, 2, 2, [v, 1], rfl, ⟨rfl, rd_news w5 [v, 1], Nat.le_refl _, fun e => by cases e⟩, by intro z hz; simp at hz; omega, Nat.le_refl _, HRO.out⟩
              refine (rmul_v (HT5.out.new _) hqv (by omega) (by omega)).mono ?_
              rintro e w7 ⟨⟨p7, rfl, h7⟩, hb7⟩
              have hb57 := kept_trans hb5 (below_new hb7)
              have H7 := Lib.hid h7
              clear hqv h7 hb7 hck5
              go_wp2_with fail
              refine (rinv_any d w7).mono ?_
              rintro e w8 ⟨rfl, hb8⟩
              have hiv : Fld.to (Fld.pow d 2305843009213693949) = Fld.iv (Pl.co xs i - Pl.co xs k) := by rw [Fld.to_powI, HDC.out]
              obtain ⟨u, hu⟩ : ∃ u, u = Fld.pow d 2305843009213693949 := ⟨_, rfl⟩
              rw [← hu] at hiv ⊢
              have hsc := rscale_v (H7.out.below hb8).q (by omega) u
              rw [hiv] at hsc
              have HSC := Lib.hid hsc
              clear hiv hu hsc
              go_wp2_with fail
              refine HSC.out.mono ?_
              rintro e w9 ⟨⟨p9, rfl, h9⟩, hb9⟩
              have hb59 := kept_trans hb57 (kept_trans hb8 hb9)
              have hst := HRK.out.step hki HDNE.out
              have H9 := Lib.hid (And.intro ((h9.less hst.lt).wide (show k + 1 + 1 - (if i < k + 1 then 1 else 0) ≤ n + 1 by split <;> omega)).q hst)
              clear h9 hst
              go_wp2
              go_roundw
              case rel => exact ⟨k + 1, by go_num, hlk, _, H9.out.1, H9.out.2, kept_trans hbk hb59⟩
              case measure => simp [intOf]; omega
        · obtain rfl : k = n := by omega
          have hT2 := HT.out
          have HSk := Lib.hid (HS.out.below hbk)
          go_wp2_with fail
          refine (radd_v HSk.out.q HT.out (by omega) (by omega)).mono ?_
          rintro e w7 ⟨⟨p7, rfl, h7⟩, hb7⟩
          have hri := HRI.out.step HRK.out hlt
          have H7 := Lib.hid (And.intro (h7.less hri.lt) hri)
          have hbw7 := kept_trans hbwk hb7
          clear h7 hri hT2
          go_wp2
          go_roundw
          case rel => exact ⟨i + 1, by go_num, hlt, _, H7.out.1, H7.out.2, hbw7⟩
          case measure => simp [intOf]; omega
    · obtain rfl : i = n := by omega
      have hfi := HRI.out.fi
      have HF := Lib.hid hfi
      clear hfi
      go_wp2
      go_ret
      exact ⟨⟨fun _ => ⟨_, S, rfl, HS.out, HF.out.1⟩, fun h => absurd HF.out.2 h⟩, hbw⟩
end Go.Proofs.Ytalljoneflepiaa
