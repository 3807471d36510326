/-
  Package poly's power: what it tells is x and k, raised to n, up to a multiple of the modulo. For trimmed polynomials of up to a million numbers that are not 0.
-/
import Derived.Test.YtalljoneflepiaaDvc
import Derived.Laws.BitsAllLaws
namespace Go.Proofs.Ytalljoneflepiaa
open Go.RowKit

namespace Pl
/-- a and b leave the same, divided by m. -/
def Cg (m a b : Pl) : Prop := Dv m (a - b)
theorem Cg.of_dm {m a q r : Pl} (h : DM a m q r) : Cg m a r := ⟨q, h.1, by rw [h.2.2.1, add_sub, mul_comm]⟩
theorem Cg.trans {m a b c : Pl} (h : Cg m a b) (k : Cg m b c) : Cg m a c := by
  have h1 := Dv.add h k
  rwa [show a - b + (b - c) = a - c from ext fun n => by simp only [add_at, sub_at]; grind] at h1
theorem Cg.mul {m a b c d : Pl} (ha : Po a) (hd : Po d) (h : Cg m a b) (k : Cg m c d) : Cg m (a * c) (b * d) := by
  have h1 := Dv.add (Dv.mul k ha) (Dv.mul' h hd)
  rwa [mul_sub, sub_mul, show a * c - a * d + (a * d - b * d) = a * c - b * d from ext fun n => by simp only [add_at, sub_at]; grind] at h1
theorem Cg.refl (m a : Pl) : Cg m a a := ⟨0, Po.zero, by rw [mul_zero]; exact ext fun n => by rw [sub_at, zero_at]; exact Fin.sub_self⟩
theorem Cg.sq {m s R q r : Pl} {e : Nat} (hs : Po s) (hR : Po R) (h : Cg m (pw s e) R) (hd : DM (R * R) m q r) : Cg m (pw s (e + e)) r := by
  rw [pw_add]
  exact (Cg.mul (Po.pw hs e) hR h h).trans (Cg.of_dm hd)
theorem Cg.one {m s R q r : Pl} {e : Nat} (hs : Po s) (hR : Po R) (h : Cg m (pw s e) R) (hd : DM (s * R) m q r) : Cg m (pw s (e + 1)) r := by
  rw [show pw s (e + 1) = s * pw s e from by rw [pw, mul_comm]]
  exact (Cg.mul hs hR (Cg.refl m s) h).trans (Cg.of_dm hd)
end Pl

theorem Made.own {lo K : Nat} {s : Pl} {e : Ending} {w' : World} (h : Made lo K s e w') : ∃ g L, e = .returned (.slice (some ⟨g, 0, none⟩) K K) ∧ lo ≤ g ∧ Own w' g K K L s := by
  obtain ⟨g, L, e, h1, h2, h3, h4, h5⟩ := h
  exact ⟨g, L, e, h1, h2, by omega, Nat.le_refl _, h4, by rw [List.take_of_length_le (by omega)]; exact h5⟩

theorem product_own (A A2 : Option Addr) (la ca lb cb : Nat) (a b : List Nat) (w : World) (hn : la = a.length) (hm : lb = b.length) (hla : la ≤ 1000000) (hlb : lb ≤ 1000000)
    (ha : ∀ y ∈ a, y < 18446744073709551616) (hb : ∀ y ∈ b, y < 18446744073709551616) (hA : Rd w.heap.size w A (u64s a)) (hA2 : Rd w.heap.size w A2 (u64s b)) :
    Calls Try.prog 47 #[.slice A la ca, .slice A2 lb cb] w fun e w' => (∃ g K L, e = .returned (.slice (some ⟨g, 0, none⟩) K K) ∧ w.heap.size ≤ g ∧ K ≤ la + lb ∧ Own w' g K K L (Pl.co a * Pl.co b)) ∧ Below w.heap.size w w' := by
  rcases Nat.eq_zero_or_pos (la + lb) with h0 | h0
  · obtain rfl : la = 0 := by omega
    obtain rfl : lb = 0 := by omega
    rw [List.eq_nil_of_length_eq_zero hn.symm, List.eq_nil_of_length_eq_zero hm.symm, Pl.co_nil, Pl.zero_mul]
    refine (product_nil A A2 ca cb w).mono fun e w' ⟨h1, h2⟩ => ⟨?_, h2⟩
    obtain ⟨g, L, e, h3, h4⟩ := h1.own
    exact ⟨g, 0, L, e, h3, by omega, h4⟩
  · refine (product_any A A2 la ca lb cb (la + lb - 1) a b w hn hm h0 (by omega) hla hlb ha hb hA hA2).mono fun e w' ⟨h1, h2⟩ => ⟨?_, h2⟩
    obtain ⟨g, L, e, h3, h4⟩ := h1.own
    exact ⟨g, _, L, e, h3, by omega, h4⟩

theorem Pt.block {w : World} {A : Option Addr} {n c : Nat} {l : List Nat} (h : Pt w A n c l) (hn : 0 < n) {bl off : Nat} (e : A = some ⟨bl, off, none⟩) : bl < w.heap.size := by
  obtain ⟨b, o, e', h1, _⟩ := h.2.1 (by rw [u64s_len, ← h.1]; exact hn)
  rw [e] at e'
  injection e' with e'
  injection e' with e1
  omega

theorem and_one (e : Nat) (he : e < 18446744073709551616) : bits .and .u64 (e : Int) 1 = ((e % 2 : Nat) : Int) := by
  have h := u64_and_nat e 1 he (by omega)
  rw [Nat.and_one_is_mod] at h
  exact h

/-- What power keeps: a polynomial in memory of its own that is (x + k) raised to e, up to a multiple of the modulo. -/
def PwAt (w wr : World) (S M : Pl) (lm e : Nat) (x : Value) : Prop :=
  ∃ g n c L R, x = .slice (some ⟨g, 0, none⟩) n c ∧ w.heap.size ≤ g ∧ Own wr g n c L R ∧ Pl.Tr (L.take n) ∧ n ≤ lm ∧ Pl.Cg M (Pl.pw S e) R

set_option maxRecDepth 100000 in
set_option maxHeartbeats 2000000 in
theorem power_any (k n Ln : Nat) (A : Option Addr) (lm cm : Nat) (b : List Nat) (w : World) (hk : k < 18446744073709551616) (hn : n < 18446744073709551616) (hnl : n < 2 ^ Ln) (hl64 : Ln ≤ 64) (hlen : ∀ W, Calls Try.prog 70 #[.int .u64 (n : Int)] W fun e w' => e = .returned (.int .i64 (Ln : Int)) ∧ W = w')
    (hb : Pt w A lm cm b) (ht : Pl.Tr b) (hm0 : 0 < lm) (hm : lm ≤ 400000) :
    Calls Try.prog 63 #[.int .u64 (k : Int), .int .u64 (n : Int), .slice A lm cm] w fun e w' => (∃ x, e = .returned x ∧ PwAt w w' (Pl.lin (0 - Fld.to k)) (Pl.co b) lm n x) ∧ Below w.heap.size w w' := by
  have hb1 : Below w.heap.size w (w.alloc (.cells #[.int .u64 1] 23)) := (Below.refl _ w).alloc (Nat.le_refl _) _
  have ho1 : Own (w.alloc (.cells #[.int .u64 1] 23)) w.heap.size 1 1 [1] (Pl.C 1) := ⟨ar_new w [1], Nat.le_refl _, Nat.le_refl _, by intro x hx; rw [List.mem_singleton.1 hx]; omega, by
    show Pl.co [1] = Pl.C 1
    rw [Pl.co_cons, Pl.co_nil, Pl.sh_zero, Pl.add_zero]; rfl⟩
  have hdiv := fun g n c L s w1 (hw : Below w.heap.size w w1) (hlo : w.heap.size ≤ g) (ho : Own w1 g n c L s) hn => divide_own g n c L s A lm cm b w1 ho hn (hb.below hw) ht hm0 (by omega) (fun bl off e => by have := hb.block hm0 e; omega)
  obtain ⟨lb, hlb⟩ : ∃ lb, lm = lb + 1 := ⟨lm - 1, by omega⟩
  have hdg : Pl.Dg (Pl.co b) lb := ht.dg (hb.1 ▸ hlb)
  have HDG := Lib.hid hdg
  have hlb' : lb ≤ lm ∧ lb + 1 ≤ lm := by omega
  have HLB := Lib.hid hlb'
  have HDIV := Lib.hid hdiv
  have HO1 := Lib.hid ho1
  have HL := Lib.hid hlen
  have HB := Lib.hid hb
  have HT := Lib.hid ht
  clear hb ht hlen ho1 hdiv hdg hlb hlb'
  go_enter Try.func63, Try.ntmps63
  go_wp2_with fail
  refine (HDIV.out w.heap.size 1 1 [1] _ _ hb1 (Nat.le_refl _) HO1.out (by omega)).mono ?_
  rintro e w5 ⟨⟨gq, nq, Lq, nr, L', Q, R, rfl, d1, d2, d3, d4, d5, d6, d7, d8⟩, hg5⟩
  have hn0 : n / 2 ^ Ln = 0 := Nat.div_eq_of_lt hnl
  have hat : PwAt w w5 (Pl.lin (0 - Fld.to k)) (Pl.co b) lm (n / 2 ^ Ln) (.slice (some ⟨w.heap.size, 0, none⟩) nr 1) := ⟨_, nr, 1, L', R, rfl, Nat.le_refl _, d3, d4, by omega, by
    rw [hn0]; exact Pl.Cg.of_dm d7⟩
  have hbw : Below w.heap.size w w5 := hb1.trans (below_only hg5 (Nat.le_refl _) (by simp))
  have HAT := Lib.hid hat
  have HNL := Lib.hid hnl
  clear d1 d2 d3 d4 d5 d6 d7 d8 hg5 hat hn0 HO1 hb1 hnl
  go_wp2_with fail
  refine (HL.out w5).mono ?_
  rintro e w6 ⟨rfl, rfl⟩
  go_wp2
  go_loopw [8, 9] (fun x z wr => ∃ (kb : Nat) (zi : Int), z = .int .i64 zi ∧ zi = (kb : Int) - 1 ∧ kb ≤ Ln ∧ PwAt w wr (Pl.lin (0 - Fld.to k)) (Pl.co b) lm (n / 2 ^ kb) x ∧ Below w.heap.size w wr) (fun _ z _ => (intOf z + 1).toNat)
  case atStart => exact ⟨Ln, _, rfl, rfl, Nat.le_refl _, HAT.out, hbw⟩
  case round =>
    obtain ⟨kb, zi, rfl, hz, hkl, ⟨g, ng, cg, Lg, S, rfl, k1, k2, k3, k4, k5⟩, hbr⟩ := hrel
    have K := Lib.hid (And.intro k2 (And.intro k3 k5))
    clear k2 k3 k5 HAT
    cases kb with
    | zero =>
      obtain rfl : zi = -1 := by omega
      clear hz
      go_wp2
      go_ret
      obtain ⟨k2, k3, k5⟩ := K.out
      rw [Nat.pow_zero, Nat.div_one] at k5
      exact ⟨⟨_, rfl, _, _, _, _, _, rfl, k1, k2, k3, k4, k5⟩, hbr⟩
    | succ j =>
      obtain rfl : zi = (j : Int) := by omega
      have q0 : (0 : Int) ≤ (j : Int) := by omega
      clear hz
      obtain ⟨k2, k3, k5⟩ := K.out
      have hpr := product_own (some ⟨g, 0, none⟩) (some ⟨g, 0, none⟩) ng cg ng cg _ _ wr k2.pt.1 k2.pt.1 (by omega) (by omega) k3.1.big k3.1.big k2.pt.2.1 k2.pt.2.1
      rw [k2.co] at hpr
      have HPR := Lib.hid hpr
      have hbs := hbr.size
      clear k2 k3 k5 hpr
      go_wp2_with fail
      refine HPR.out.mono ?_
      rintro e w1 ⟨⟨g1, n1, L1, rfl, h1, h2, h3⟩, hb1⟩
      have H3 := Lib.hid h3
      clear h3 HPR
      have hb01 : Below w.heap.size w w1 := hbr.trans (hb1.mono hbs)
      have hb1s := hb1.size
      go_wp2_with fail
      refine (HDIV.out g1 n1 n1 L1 _ w1 hb01 (by omega) H3.out (by omega)).mono ?_
      rintro e w2 ⟨⟨gq, nq, Lq, nr, L', Q, R, rfl, d1, d2, d3, d4, d5, d6, d7, d8⟩, hg5⟩
      have K2 := Lib.hid (And.intro d2 (And.intro d3 (And.intro d4 (And.intro d7 hg5))))
      clear d1 d2 d3 d4 d5 d6 d7 d8 hg5
      have q64 : (j : Int) ≤ 64 := by omega
      obtain ⟨ex, hex⟩ : ∃ ex, ex = n / 2 ^ j := ⟨_, rfl⟩
      have hexn : ex < 18446744073709551616 := by rw [hex]; exact Nat.lt_of_le_of_lt (Nat.div_le_self _ _) hn
      have hdv : (n : Int) / 2 ^ j = (ex : Int) := by rw [hex, Int.natCast_ediv, Int.natCast_pow]; rfl
      have hand : bits .and .u64 (ex : Int) 1 = ((ex % 2 : Nat) : Int) := and_one ex hexn
      have hhalf : n / 2 ^ (j + 1) = ex / 2 := by rw [hex, Nat.pow_succ, Nat.div_div_eq_div_mul]
      have HEX := Lib.hid hex
      have HHF := Lib.hid hhalf
      clear hex hhalf hexn
      rcases Nat.mod_two_eq_zero_or_one ex with h0 | h0
      · rw [h0] at hand
        have H0 := Lib.hid h0
        clear h0
        rw [Int.natCast_zero] at hand
        go_wp2
        obtain ⟨k2, k3, k5⟩ := K.out
        obtain ⟨d2, d3, d4, d7, hg5⟩ := K2.out
        go_roundw
        case rel =>
          refine ⟨j, _, rfl, rfl, by omega, ⟨g1, nr, n1, L', R, rfl, by omega, d3, d4, Nat.le_trans (d3.len d4 (d7.2.2.2 _ HDG.out)) HLB.out.1, ?_⟩, hb01.trans (below_only hg5 (by omega) (by omega))⟩
          have h1 := Pl.Cg.sq (Pl.Po.lin _) k2.po k5 d7
          rw [HHF.out] at h1
          rw [← HEX.out]
          have h2 := H0.out
          rwa [show ex / 2 + ex / 2 = ex by omega] at h1
        case measure => simp [intOf]
      · rw [h0] at hand
        have H0 := Lib.hid h0
        clear h0
        rw [show ((1 : Nat) : Int) = 1 from rfl] at hand
        have hsub : Fld.to (Fld.sub 0 k) = 0 - Fld.to k := by rw [Fld.to_subF]; rfl
        have hsl := Fld.sub_lt 0 k
        have hneg := fun W => neg_any k W hk
        obtain ⟨u, hu⟩ : ∃ u, u = Fld.sub 0 k := ⟨_, rfl⟩
        simp only [← hu] at hneg hsl hsub
        have HNEG := Lib.hid hneg
        have HSUB := Lib.hid hsub
        clear hneg hsub hu
        go_wp2_with fail
        refine (HNEG.out w2).mono ?_
        rintro e w3 ⟨rfl, rfl⟩
        obtain ⟨d2, d3, d4, d7, hg5⟩ := K2.out
        have hnr : nr + 1 ≤ lm := Nat.le_trans (Nat.succ_le_succ (d3.len d4 (d7.2.2.2 _ HDG.out))) HLB.out.2
        have hb02 : Below w.heap.size w w2 := hb01.trans (below_only hg5 (by omega) (by omega))
        have hb2s := hb02.size
        have hrt := withRoot_any (some ⟨g1, 0, none⟩) nr n1 (nr + 1) u (L'.take nr) w2 d3.slice.symm rfl (by omega) d4.1.big (by omega) d3.pt.2.1
        rw [d3.co, HSUB.out] at hrt
        have HRT := Lib.hid hrt
        clear d2 d3 d4 d7 hg5 hrt
        go_wp2_with fail
        refine HRT.out.mono ?_
        rintro e w3 ⟨hmd, hb3⟩
        obtain ⟨g3, L3, rfl, h31, h32⟩ := hmd.own
        have H32 := Lib.hid h32
        have hb03 : Below w.heap.size w w3 := hb02.trans (hb3.mono hb2s)
        have hb3s := hb3.size
        clear h32 HRT hmd
        go_wp2_with fail
        refine (HDIV.out g3 (nr + 1) (nr + 1) L3 _ w3 hb03 (by omega) H32.out (by omega)).mono ?_
        rintro e w4 ⟨⟨gq4, nq4, Lq4, nr4, L4, Q4, R4, rfl, d1, d2, d3, d4, d5, d6, d7, d8⟩, hg4⟩
        have K3 := Lib.hid (And.intro d2 (And.intro d3 (And.intro d4 (And.intro d7 hg4))))
        clear d1 d2 d3 d4 d5 d6 d7 d8 hg4
        go_wp2
        obtain ⟨k2, k3, k5⟩ := K.out
        obtain ⟨d2, d3, d4, d7, hg5⟩ := K2.out
        obtain ⟨e2, e3, e4, e7, hg4⟩ := K3.out
        go_roundw
        case rel =>
          refine ⟨j, _, rfl, rfl, by omega, ⟨g3, nr4, nr + 1, L4, R4, rfl, by omega, e3, e4, Nat.le_trans (e3.len e4 (e7.2.2.2 _ HDG.out)) HLB.out.1, ?_⟩, hb03.trans (below_only hg4 (by omega) (by omega))⟩
          have h1 := Pl.Cg.one (Pl.Po.lin _) d3.po (Pl.Cg.sq (Pl.Po.lin _) k2.po k5 d7) e7
          rw [HHF.out] at h1
          rw [← HEX.out]
          have h2 := H0.out
          rwa [show ex / 2 + ex / 2 + 1 = ex by omega] at h1
        case measure => simp [intOf]
end Go.Proofs.Ytalljoneflepiaa
