/-
  The reference's interpolation (Lagrange's).
-/
import Derived.Test.YtalljoneflepiaaRpe
namespace Go.Proofs.Ytalljoneflepiaa
open Go.RowKit

theorem rscale_v {w : World} {o : Value} {s : Pl} {d : Nat} (h : Qv w o s d) (hd : d ≤ 100000) (t : Nat) : Calls Try.prog 34 #[o, .int .u64 (t : Int)] w fun e w' => (∃ z, e = .returned z ∧ Tv w' z (Pl.C (Fld.to t) * s) d) ∧ Below w.heap.size w w' := by
  have hl := h.lt
  obtain ⟨A, n, c, l, rfl, h1, h2, h3, rfl⟩ := h
  exact (rscale_poly A n c t l w h1.1 (by omega) h1.2.1).mono fun e w' ⟨g, b⟩ => ⟨Tv.mk g (Pl.Lt.smul _ hl), b⟩
namespace Pl
open Fld (F iv)
/-- What is known behind i rounds. -/
structure RfI (xs ys : List Nat) (n i : Nat) (S : Pl) : Prop where
  lt : Lt S n
  vs : ∀ j, j < n → val S (co xs j) = if j < i then co ys j else 0
  ds : ∀ a, a < i → ∀ b, b < n → b ≠ a → co xs a ≠ co xs b
/-- What is known of one part behind k rounds. -/
structure RfK (xs ys : List Nat) (i k : Nat) (T : Pl) : Prop where
  lt : Lt T (k + 1 - (if i < k then 1 else 0))
  own : val T (co xs i) = co ys i
  vs : ∀ j, j < k → j ≠ i → val T (co xs j) = 0
  ds : ∀ b, b < k → b ≠ i → co xs i ≠ co xs b
theorem RfI.start (xs ys : List Nat) (n : Nat) : RfI xs ys n 0 0 := ⟨Lt.zero n, fun j _ => by rw [val_zero, if_neg (Nat.not_lt_zero j)], fun a h => absurd h (Nat.not_lt_zero a)⟩
theorem RfK.start (xs ys : List Nat) (i : Nat) : RfK xs ys i 0 (C (co ys i)) := ⟨by rw [if_neg (Nat.not_lt_zero i)]; exact Lt.C _, val_C _ _, fun j h => absurd h (Nat.not_lt_zero j), fun j h => absurd h (Nat.not_lt_zero j)⟩
theorem RfK.skip {xs ys : List Nat} {i : Nat} {T : Pl} (h : RfK xs ys i i T) : RfK xs ys i (i + 1) T :=
  ⟨by have h1 := h.lt; rw [if_neg (Nat.lt_irrefl i)] at h1; rw [if_pos (Nat.lt_succ_self i)]; exact h1, h.own, fun j hj hne => h.vs j (by omega) hne, fun j hj hne => h.ds j (by omega) hne⟩
theorem RfK.step {xs ys : List Nat} {i k : Nat} {T : Pl} (h : RfK xs ys i k T) (hk : k ≠ i) (hd : co xs i - co xs k ≠ 0) : RfK xs ys i (k + 1) (C (iv (co xs i - co xs k)) * (T * lin (co xs k))) := by
  have pT : Po T := ⟨_, h.lt⟩
  have hv : ∀ x, val (C (iv (co xs i - co xs k)) * (T * lin (co xs k))) x = iv (co xs i - co xs k) * (val T x * (x - co xs k)) := fun x => by
    rw [val_smul _ (pT.mul (Po.lin _)), val_mul pT (Po.lin _), val_lin]
  refine ⟨Lt.smul _ ?_, ?_, fun j hj hne => ?_, fun b hb hne => ?_⟩
  · rw [mul_comm, lin_mul]
    have h1 := h.lt.sh.sub ((Lt.smul (co xs k) h.lt).mono (Nat.le_succ _))
    refine h1.mono ?_
    split <;> split <;> omega
  · rw [hv, h.own]
    have := Fld.mul_iv hd
    grind
  · rw [hv]
    rcases Nat.lt_or_ge j k with h1 | h1
    · rw [h.vs j h1 hne]; grind
    · obtain rfl : j = k := by omega
      grind
  · rcases Nat.lt_or_ge b k with h1 | h1
    · exact h.ds b h1 hne
    · obtain rfl : b = k := by omega
      intro e
      exact hd (by rw [e]; exact Fin.sub_self)
theorem RfI.step {xs ys : List Nat} {n i : Nat} {S T : Pl} (h : RfI xs ys n i S) (hk : RfK xs ys i n T) (hi : i < n) : RfI xs ys n (i + 1) (S + T) := by
  have hl := hk.lt
  rw [if_pos hi] at hl
  refine ⟨h.lt.add (hl.mono (by omega)), fun j hj => ?_, fun a ha b hb hne => ?_⟩
  · rw [val_add ⟨_, h.lt⟩ ⟨_, hl⟩, h.vs j hj]
    by_cases h1 : j = i
    · subst h1
      rw [if_neg (Nat.lt_irrefl j), if_pos (Nat.lt_succ_self j), hk.own]; grind
    · rw [hk.vs j hj h1]
      by_cases h2 : j < i
      · rw [if_pos h2, if_pos (by omega)]; grind
      · rw [if_neg h2, if_neg (by omega)]; exact Fin.add_zero 0
  · rcases Nat.lt_or_ge a i with h1 | h1
    · exact h.ds a h1 b hb hne
    · obtain rfl : a = i := by omega
      exact hk.ds b hb hne
theorem RfI.fi {xs ys : List Nat} {n : Nat} {S : Pl} (h : RfI xs ys n n S) : Fi xs ys n S ∧ Dis xs n :=
  ⟨⟨h.lt, fun j hj => by rw [h.vs j hj, if_pos hj]⟩, fun i j hij hj => h.ds i (by omega) j hj (by omega)⟩
end Pl

/-- What the reference's From tells. -/
def RfT (n : Nat) (xs ys : List Nat) (e : Ending) (w' : World) : Prop := (Pl.Dis xs n → ∃ z s, e = .returned z ∧ Tv w' z s n ∧ Pl.Fi xs ys n s) ∧ (¬ Pl.Dis xs n → e = .returned (.slice none 0 0))
/-- What it keeps. -/
def RoAt (w wr : World) (xs ys : List Nat) (n i : Nat) (o : Value) : Prop := ∃ S, Tv wr o S n ∧ Pl.RfI xs ys n i S ∧ Below w.heap.size w wr
def RpAt (w wr : World) (xs ys : List Nat) (n i k : Nat) (p : Value) : Prop := ∃ T, Qv wr p T (n + 1) ∧ Pl.RfK xs ys i k T ∧ Below w.heap.size w wr

set_option maxRecDepth 100000 in
set_option maxHeartbeats 8000000 in
theorem rfrom_same (A A2 : Option Addr) (n ca cb : Nat) (xs ys : List Nat) (w : World) (hn : n = xs.length) (hm : n = ys.length) (hn9 : n ≤ 1000) (hy : ∀ y ∈ ys, y < 18446744073709551616) (hA : Rd w.heap.size w A (u64s xs)) (hA2 : Rd w.heap.size w A2 (u64s ys)) :
    Calls Try.prog 30 #[.slice A n ca, .slice A2 n cb] w fun e w' => RfT n xs ys e w' ∧ Below w.heap.size w w' := by
  have HN := Lib.hid hn
  have HM := Lib.hid hm
  have HY := Lib.hid hy
  have HA := Lib.hid hA
  have HA2 := Lib.hid hA2
  have h0 : RoAt w w xs ys n 0 (.slice none 0 0) := ⟨0, Tv.nil w n, Pl.RfI.start xs ys n, Below.refl _ _⟩
  have H0 := Lib.hid h0
  clear hn hm hy hA hA2 h0
  go_enter Try.func30, Try.ntmps30
  go_wp2
  go_loopw [5, 6] (fun o i wr => ∃ t : Nat, i = .int .i64 (t : Int) ∧ t ≤ n ∧ RoAt w wr xs ys n t o) (fun _ i _ => n - (intOf i).toNat)
  case atStart => exact ⟨0, rfl, Nat.zero_le _, H0.out⟩
  case round =>
    obtain ⟨i, rfl, hi, S, hS, hRI, hbw⟩ := hrel
    have HS := Lib.hid hS
    have HRI := Lib.hid hRI
    clear hS hRI H0
    by_cases hlt : i < n
    · obtain ⟨b1, o1, e1, hb1, hc1⟩ := HA2.out.num (k := i) (by rw [← HM.out]; exact hlt)
      obtain ⟨b0, o0, e0, hb0, hc0⟩ := HA.out.num (k := i) (by rw [← HN.out]; exact hlt)
      obtain ⟨wo, hwo⟩ : ∃ wo, wo = wr := ⟨_, rfl⟩
      rw [← hwo] at HS hbw ⊢
      have hc1r := (hbw.cell (p := ⟨b1, o1 + i, none⟩) hb1).trans hc1
      obtain ⟨y, hyy⟩ : ∃ y, y = ys[i]?.getD 0 := ⟨_, rfl⟩
      rw [← hyy] at hc1r
      have hyc : Fld.to y = Pl.co ys i := by rw [hyy]; rfl
      have hy64 : y < 18446744073709551616 := by rw [hyy]; exact get_big HY.out i
      obtain ⟨x, hx⟩ : ∃ x, x = xs[i]?.getD 0 := ⟨_, rfl⟩
      rw [← hx] at hc0
      have hxc : Fld.to x = Pl.co xs i := by rw [hx]; rfl
      have HXC := Lib.hid hxc
      have HYC := Lib.hid hyc
      have HC0 := Lib.hid hc0
      clear hwo hc1 hyy hyc hx hxc hc0
      subst e1 e0
      go_wp2
      have hp0 : RpAt wo (wo.alloc (.cells #[.int .u64 (y : Int)] 23)) xs ys n i 0 (.slice (some ⟨wo.heap.size, 0, none⟩) 1 1) :=
        ⟨_, ⟨_, 1, 1, [y], rfl, ⟨rfl, rd_news wo [y], Nat.le_refl _, fun e => by cases e⟩, by intro z hz; rw [List.mem_singleton.1 hz]; exact hy64, by omega, (co_one y).trans (by rw [HYC.out])⟩, Pl.RfK.start xs ys i, (Below.refl _ wo).alloc (Nat.le_refl _) _⟩
      have HP0 := Lib.hid hp0
      clear hp0 hc1r
      go_loopw [7, 8] (fun p k wr => ∃ t : Nat, k = .int .i64 (t : Int) ∧ t ≤ n ∧ RpAt wo wr xs ys n i t p) (fun _ k _ => n - (intOf k).toNat)
      case atStart => exact ⟨0, rfl, Nat.zero_le _, HP0.out⟩
      case round =>
        obtain ⟨k, rfl, hk, T, hT, hRK, hbk⟩ := hrel
        have HT := Lib.hid hT
        have HRK := Lib.hid hRK
        clear hT hRK HP0
        have hbwk := kept_trans hbw hbk
        by_cases hlk : k < n
        · by_cases hki : k = i
          · subst hki
            have t1 : ((k : Int) == (k : Int)) = true := by simp
            go_wp2
            go_roundw
            case rel => exact ⟨k + 1, by go_num, hlk, T, HT.out, HRK.out.skip, hbk⟩
            case measure => simp [intOf]; omega
          · have t1 : ((k : Int) == (i : Int)) = false := by rw [beq_eq_false_iff_ne]; omega
            obtain ⟨b2, o2, e2, hb2, hc2⟩ := HA.out.num (k := k) (by rw [← HN.out]; exact hlk)
            injection e2 with e2
            injection e2 with e3 e4
            subst e3 e4
            have hci := (hbwk.cell (p := ⟨b0, o0 + i, none⟩) hb0).trans HC0.out
            have hck := (hbwk.cell (p := ⟨b0, o0 + k, none⟩) hb0).trans hc2
            obtain ⟨xk, hxk⟩ : ∃ xk, xk = xs[k]?.getD 0 := ⟨_, rfl⟩
            rw [← hxk] at hck
            have hxkc : Fld.to xk = Pl.co xs k := by rw [hxk]; rfl
            have hsl := Fld.sub_lt x xk
            have hq := quiet_same (rsub_any x xk)
            have hdc : Fld.to (Fld.sub x xk) = Pl.co xs i - Pl.co xs k := by rw [Fld.to_subF, HXC.out, hxkc]
            obtain ⟨d, hd⟩ : ∃ d, d = Fld.sub x xk := ⟨_, rfl⟩
            rw [← hd] at hsl hq hdc
            have HXKC := Lib.hid hxkc
            have HQ := Lib.hid hq
            have HDC := Lib.hid hdc
            have q1 : (0 : Int) ≤ (i : Int) := by omega
            have q2 : (i : Int) < (n : Int) := by omega
            have q3 : (0 : Int) ≤ (k : Int) := by omega
            have q4 : (k : Int) < (n : Int) := by omega
            clear hc2 hxk hxkc hd hq hdc
            go_wp2
            go_quiet ((go_at_call 53; exact quiet_any HQ.out))
            rename_i nq
            obtain ⟨w5, hw5⟩ : ∃ w5, w5 = wr.drewN nq := ⟨_, rfl⟩
            rw [← hw5]
            have hb5 : Below wr.heap.size wr w5 := by rw [hw5]; exact below_drewN (Below.refl _ _) _
            have hck5 := (hb5.cell (p := ⟨b0, o0 + k, none⟩) (by show b0 < wr.heap.size; have := hbwk.size; omega)).trans hck
            clear hw5 hck hci
            rcases Nat.eq_zero_or_pos d with h0 | h0
            · have hnd : ¬ Pl.Dis xs n := by
                intro hD
                have he : Pl.co xs i = Pl.co xs k := by
                  have h1 := HDC.out
                  rw [h0] at h1
                  have h2 : (0 : Fld.F) = Pl.co xs i - Pl.co xs k := h1
                  grind
                rcases Nat.lt_or_ge i k with h1 | h1
                · exact hD i k h1 hlk he
                · exact hD k i (by omega) hlt he.symm
              have HND := Lib.hid hnd
              clear hnd hck5
              subst h0
              go_wp2
              go_ret
              exact ⟨⟨fun h => absurd h HND.out, fun _ => rfl⟩, kept_trans hbwk hb5⟩
            · have t2 : ((d : Int) == 0) = false := by rw [beq_eq_false_iff_ne]; omega
              have hdne : Pl.co xs i - Pl.co xs k ≠ 0 := by rw [← HDC.out]; exact fun h => by have := (Pl.to_eq_zero hsl).1 h; omega
              have HDNE := Lib.hid hdne
              have hro := Pl.co_root xk
              have hyl := Fld.sub_lt 0 xk
              have hsb := rsub_any 0 xk w5
              rw [show ((0 : Nat) : Int) = 0 from rfl] at hsb
              obtain ⟨v, hv⟩ : ∃ v, v = Fld.sub 0 xk := ⟨_, rfl⟩
              rw [← hv] at hro hyl hsb
              rw [HXKC.out] at hro
              have HRO := Lib.hid hro
              have HSB := Lib.hid hsb
              have HT5 := Lib.hid (HT.out.below hb5)
              clear hdne hro hsb hv
              go_wp2_with fail
              refine HSB.out.mono ?_
              rintro e w6 ⟨rfl, rfl⟩
              go_wp2_with fail
              have hqv : Qv (w5.alloc (.cells #[.int .u64 (v : Int), .int .u64 1] 23)) (.slice (some ⟨w5.heap.size, 0, none⟩) 2 2) (Pl.lin (Pl.co xs k)) 2 :=
                ⟨_, 2, 2, [v, 1], rfl, ⟨rfl, rd_news w5 [v, 1], Nat.le_refl _, fun e => by cases e⟩, by intro z hz; simp at hz; omega, Nat.le_refl _, HRO.out⟩
              refine (rmul_v (HT5.out.new _) hqv (by omega) (by omega)).mono ?_
              rintro e w7 ⟨⟨p7, rfl, h7⟩, hb7⟩
              have hb57 := kept_trans hb5 (below_new hb7)
              have H7 := Lib.hid h7
              clear hqv h7 hb7 hck5
              go_wp2_with fail
              refine (rinv_any d w7).mono ?_
              rintro e w8 ⟨rfl, hb8⟩
              have hiv : Fld.to (Fld.pow d 2305843009213693949) = Fld.iv (Pl.co xs i - Pl.co xs k) := by rw [Fld.to_powI, HDC.out]
              obtain ⟨u, hu⟩ : ∃ u, u = Fld.pow d 2305843009213693949 := ⟨_, rfl⟩
              rw [← hu] at hiv ⊢
              have hsc := rscale_v (H7.out.below hb8).q (by omega) u
              rw [hiv] at hsc
              have HSC := Lib.hid hsc
              clear hiv hu hsc
              go_wp2_with fail
              refine HSC.out.mono ?_
              rintro e w9 ⟨⟨p9, rfl, h9⟩, hb9⟩
              have hb59 := kept_trans hb57 (kept_trans hb8 hb9)
              have hst := HRK.out.step hki HDNE.out
              have H9 := Lib.hid (And.intro ((h9.less hst.lt).wide (show k + 1 + 1 - (if i < k + 1 then 1 else 0) ≤ n + 1 by split <;> omega)).q hst)
              clear h9 hst
              go_wp2
              go_roundw
              case rel => exact ⟨k + 1, by go_num, hlk, _, H9.out.1, H9.out.2, kept_trans hbk hb59⟩
              case measure => simp [intOf]; omega
        · obtain rfl : k = n := by omega
          have hT2 := HT.out
          have HSk := Lib.hid (HS.out.below hbk)
          go_wp2_with fail
          refine (radd_v HSk.out.q HT.out (by omega) (by omega)).mono ?_
          rintro e w7 ⟨⟨p7, rfl, h7⟩, hb7⟩
          have hri := HRI.out.step HRK.out hlt
          have H7 := Lib.hid (And.intro (h7.less hri.lt) hri)
          have hbw7 := kept_trans hbwk hb7
          clear h7 hri hT2
          go_wp2
          go_roundw
          case rel => exact ⟨i + 1, by go_num, hlt, _, H7.out.1, H7.out.2, hbw7⟩
          case measure => simp [intOf]; omega
    · obtain rfl : i = n := by omega
      have hfi := HRI.out.fi
      have HF := Lib.hid hfi
      clear hfi
      go_wp2
      go_ret
      exact ⟨⟨fun _ => ⟨_, S, rfl, HS.out, HF.out.1⟩, fun h => absurd HF.out.2 h⟩, hbw⟩
end Go.Proofs.Ytalljoneflepiaa
