/-
  The reference's Gcd, its products of x less each root, and its interpolation.
-/
import Derived.Test.YtalljoneflepiaaRpd
namespace Go.Proofs.Ytalljoneflepiaa
open Go.RowKit

theorem rdivmod_v {w : World} {o o2 : Value} {s t : Pl} {d k : Nat} (h : Qv w o s d) (h' : Qv w o2 t k) (hd : d ≤ 100000) (hk : k ≤ 100000) :
    Calls Try.prog 25 #[o, o2] w fun e w' => RdT s t d e w' ∧ Below w.heap.size w w' := by
  obtain ⟨A, n, c, l, rfl, h1, h2, h3, rfl⟩ := h
  obtain ⟨A', n', c', l', rfl, h1', h2', h3', rfl⟩ := h'
  refine (rdivmod_any A A' n c n' c' l l' w h1.1 h1'.1 (by omega) (by omega) h1.2.1 h1'.2.1).mono ?_
  rintro e w' ⟨⟨g1, g2⟩, hb⟩
  refine ⟨⟨g1, fun h0 => ?_⟩, hb⟩
  obtain ⟨z, z2, q, r, e1, ⟨A1, n1, c1, l1, e2, p1, i1, b1⟩, ⟨A2, n2, c2, l2, e3, p2, i2, b2⟩, hdm⟩ := g2 h0
  exact ⟨z, z2, q, r, e1, ⟨A1, n1, c1, l1, e2, p1, i1, by omega⟩, ⟨A2, n2, c2, l2, e3, p2, i2, by omega⟩, hdm⟩

/-- What the reference's Gcd keeps. -/
def RgAt (w wr : World) (A B : Pl) (d ny : Nat) (a b : Value) : Prop := ∃ X Y, Tv wr a X d ∧ Tv wr b Y d ∧ (∃ P c, b = .slice P ny c) ∧ (∀ D, Pl.Po D → ((Pl.Dv D X ∧ Pl.Dv D Y) ↔ (Pl.Dv D A ∧ Pl.Dv D B))) ∧ Below w.heap.size w wr
theorem Tv.wide {w : World} {o : Value} {s : Pl} {d k : Nat} (h : Tv w o s d) (hk : d ≤ k) : Tv w o s k := by
  obtain ⟨A, n, c, l, e, h1, h2, h3⟩ := h
  exact ⟨A, n, c, l, e, h1, h2, by omega⟩

set_option maxRecDepth 100000 in
set_option maxHeartbeats 4000000 in
theorem rgcd_v {w : World} {o o2 : Value} {s t : Pl} {d k : Nat} (h : Qv w o s d) (h' : Qv w o2 t k) (hd : d ≤ 100000) (hk : k ≤ 100000) :
    Calls Try.prog 27 #[o, o2] w fun e w' => (∃ z g, e = .returned z ∧ Tv w' z g (max d k) ∧ Pl.Gc s t g) ∧ Below w.heap.size w w' := by
  have hls := h.lt
  have hlt := h'.lt
  have H := Lib.hid h
  have H' := Lib.hid h'
  have HLS := Lib.hid hls
  have HLT := Lib.hid hlt
  clear h h' hls hlt
  go_enter Try.func27, Try.ntmps27
  go_wp2_with fail
  refine (rtrim_v H.out hd).mono ?_
  rintro e w1 ⟨⟨x, rfl, hx⟩, hb1⟩
  have HX := Lib.hid hx
  clear hx
  go_wp2_with fail
  refine (rtrim_v (H'.out.below hb1) hk).mono ?_
  rintro e w2 ⟨⟨y, rfl, hy⟩, hb2⟩
  have hbw := kept_trans hb1 hb2
  obtain ⟨Ay, ny, cy, rfl, -⟩ := hy.open_
  have hst : RgAt w w2 s t (max d k) ny x (.slice Ay ny cy) := ⟨s, t, (HX.out.below hb2).wide (Nat.le_max_left d k), hy.wide (Nat.le_max_right d k), ⟨Ay, cy, rfl⟩, fun D _ => Iff.rfl, hbw⟩
  have HST := Lib.hid hst
  clear hst hy hb1 hb2 hbw
  go_wp2
  go_loopw [5, 6] (fun a b wr => ∃ n : Nat, RgAt w wr s t (max d k) n a b) (fun _ b _ => match b with | .slice _ n _ => n | _ => 0)
  case atStart => exact ⟨ny, HST.out⟩
  case round =>
    obtain ⟨n, X, Y, hX, hY, ⟨P, c, rfl⟩, hdv, hbr⟩ := hrel
    clear HST
    obtain ⟨Ae, ne, ce, e1, hnd, hY0, hYd⟩ := hY.open_
    injection e1 with e0 e1 e2
    subst e0 e1 e2
    rcases Nat.eq_zero_or_pos n with h0 | h0
    · have hYz := hY0.1 h0
      obtain ⟨Ax, nx, cx, l, rfl, hp, hi, hnx⟩ := hX
      have hg := gc_end (A := s) (B := t) hi.1 hi.2 (by rw [← hYz]; exact hdv)
      have HG := Lib.hid hg
      have HP := Lib.hid (And.intro hp hi)
      clear hY hdv hYz hY0 hYd hg hp hi
      subst h0
      rcases Nat.eq_zero_or_pos nx with h1 | h1
      · have hX0 : X = 0 := by
          rw [← HP.out.2.2]
          exact HP.out.2.1.len_zero.1 (by rw [← HP.out.1.1]; exact h1)
        have HX0 := Lib.hid hX0
        clear hX0
        subst h1
        go_wp2
        go_ret
        refine ⟨⟨_, 0, rfl, Tv.nil _ _, ?_⟩, hbr⟩
        have h := HG.out
        rwa [HX0.out, Pl.mul_zero] at h
      · obtain ⟨j, hj⟩ : ∃ j, nx = j + 1 := ⟨nx - 1, by omega⟩
        have t1 : ((nx : Int) == 0) = false := by rw [beq_eq_false_iff_ne]; omega
        have t2 : (nx : Int) - 1 = (j : Int) := by omega
        have t3 : (0 : Int) ≤ (j : Int) := by omega
        have t4 : (j : Int) < (nx : Int) := by omega
        have t5 : (nx : Int) ≤ 100000 := by omega
        obtain ⟨b, off, e2, hb, hc⟩ := HP.out.1.2.1.num (k := j) (by have := HP.out.1.1; omega)
        have hld : lead l = l[j]?.getD 0 := by unfold lead; rw [show l.length - 1 = j by have := HP.out.1.1; omega]
        obtain ⟨y, hy⟩ : ∃ y, y = l[j]?.getD 0 := ⟨_, rfl⟩
        rw [← hy] at hc hld
        have HLD := Lib.hid hld
        clear hy hld hj
        subst e2
        go_wp2_with fail
        refine (rinv_any y wr).mono ?_
        rintro e w3 ⟨rfl, hb3⟩
        have hiv : Fld.to (Fld.pow y 2305843009213693949) = Fld.iv (Fld.to y) := Fld.to_powI y
        obtain ⟨v, hv⟩ : ∃ v, v = Fld.pow y 2305843009213693949 := ⟨_, rfl⟩
        rw [← hv] at hiv ⊢
        have hsc := rscale_poly (some ⟨b, off, none⟩) nx cx v l w3 HP.out.1.1 (by omega) (HP.out.1.below hb3).2.1
        rw [hiv, HP.out.2.2] at hsc
        have HSC := Lib.hid hsc
        clear hv hiv hsc
        go_wp2_with fail
        refine HSC.out.mono ?_
        rintro e w4 ⟨hp4, hb4⟩
        have hg := HG.out
        rw [HLD.out] at hg
        obtain ⟨z, rfl, hz⟩ := Tv.mk hp4 (gcd_lt hg HLS.out HLT.out)
        have HZ := Lib.hid (And.intro hz hg)
        have hbw4 := kept_trans hbr (kept_trans hb3 hb4)
        clear hz hg hp4
        go_wp2
        go_ret
        exact ⟨⟨z, _, rfl, HZ.out.1, HZ.out.2⟩, hbw4⟩
    · have t1 : (0 : Int) < (n : Int) := by omega
      have hYne : Y ≠ 0 := fun h => by have := hY0.2 h; omega
      have HX := Lib.hid hX
      have HY := Lib.hid hY
      have HDV := Lib.hid hdv
      have HYD := Lib.hid hYd
      have HYN := Lib.hid hYne
      clear hX hY hdv hY0 hYd hYne
      go_wp2_with fail
      refine (rdivmod_v HX.out.q HY.out.q (by omega) (by omega)).mono ?_
      rintro e w3 ⟨hrd, hb3⟩
      obtain ⟨z, z2, q, r, rfl, hz, hz2, hdm⟩ := hrd.2 HYN.out
      obtain ⟨m, hm⟩ := HY.out.q.po.dg HYN.out
      have hnm := HYD.out m hm
      obtain ⟨A3, n3, c3, rfl, hn3, -⟩ := (hz2.less (hdm.2.2.2 m hm)).open_
      have hbw3 := kept_trans hbr hb3
      have HZ2 := Lib.hid (And.intro hz2 hdm)
      have HY3 := Lib.hid (HY.out.below hb3)
      have hlt3 : n3 < n := by omega
      clear hrd hz hz2 hdm hm hnm hn3
      go_wp2
      go_roundw
      case rel =>
        refine ⟨n3, Y, r, HY3.out, HZ2.out.1, ⟨A3, c3, rfl⟩, fun D hD => ?_, hbw3⟩
        rw [← HDV.out D hD, ← Pl.Dv.left HZ2.out.2.1 HZ2.out.2.2.2.1]
      case measure => simp; omega

/-- The product of x less each root, from the first on. -/
def Pl.prodL (l : List Nat) (k : Nat) : Pl := match k with
  | 0 => Pl.C 1
  | k + 1 => Pl.prodL l k * Pl.lin (Pl.co l k)
theorem Pl.prodR_take (l : List Nat) : ∀ k, k ≤ l.length → Pl.prodR (l.take k) = Pl.prodL l k
  | 0, _ => rfl
  | k + 1, h => by
    rw [take_next (by omega), Pl.prodL, ← Pl.prodR_take l k (by omega)]
    have hs : ∀ (a : List Nat) (x : Nat), Pl.prodR (a ++ [x]) = Pl.prodR a * Pl.lin (Fld.to x) := by
      intro a x
      induction a with
      | nil => show Pl.lin (Fld.to x) * Pl.C 1 = Pl.C 1 * Pl.lin (Fld.to x); rw [Pl.mul_comm]
      | cons y a ih => show Pl.lin (Fld.to y) * Pl.prodR (a ++ [x]) = Pl.lin (Fld.to y) * Pl.prodR a * Pl.lin (Fld.to x); rw [ih, Pl.mul_assoc]
    rw [hs]
    rfl
theorem Pl.Dg.prodR : ∀ l : List Nat, Pl.Dg (Pl.prodR l) l.length ∧ Pl.prodR l l.length = 1
  | [] => ⟨⟨Fld.one_ne, Pl.Lt.C 1⟩, rfl⟩
  | r :: l => by
    have h := Pl.Dg.prodR l
    have hd := (Pl.Dg.lin (Fld.to r)).mul h.1
    rw [Nat.add_comm] at hd
    refine ⟨hd, ?_⟩
    have ht := Pl.top_mul (Pl.Dg.lin (Fld.to r)).2 h.1.2
    rw [h.2, Nat.add_comm] at ht
    show (Pl.lin (Fld.to r) * Pl.prodR l) (l.length + 1) = 1
    rw [ht]
    show (Pl.X - Pl.C (Fld.to r)) 1 * 1 = 1
    rw [Pl.sub_at, Pl.C_s]
    show (1 - 0) * 1 = (1 : Fld.F)
    decide +kernel

set_option maxRecDepth 100000 in
set_option maxHeartbeats 4000000 in
theorem rof_poly (A : Option Addr) (n ca : Nat) (a : List Nat) (w : World) (hn : n = a.length) (hn9 : n ≤ 1000) (hA : Rd w.heap.size w A (u64s a)) :
    Calls Try.prog 32 #[.slice A n ca] w fun e w' => (∃ z, e = .returned z ∧ Tv w' z (Pl.prodR a) (n + 1)) ∧ Below w.heap.size w w' := by
  have HN := Lib.hid hn
  have HA := Lib.hid hA
  clear hn hA
  have h0 : Tv (w.alloc (.cells #[.int .u64 1] 23)) (.slice (some ⟨w.heap.size, 0, none⟩) 1 1) (Pl.prodL a 0) (0 + 1) :=
    ⟨_, 1, 1, [1], rfl, ⟨rfl, rd_news w [1], Nat.le_refl _, fun e => by cases e⟩, ⟨⟨by intro x hx; rw [List.mem_singleton.1 hx]; omega, .inr (by decide)⟩, co_one 1⟩, Nat.le_refl _⟩
  have hb0 : Below w.heap.size w (w.alloc (.cells #[.int .u64 1] 23)) := (Below.refl _ w).alloc (Nat.le_refl _) _
  have H0 := Lib.hid h0
  clear h0
  go_enter Try.func32, Try.ntmps32
  go_wp2
  go_loopw [3, 4] (fun o i wr => ∃ k : Nat, i = .int .i64 (k : Int) ∧ k ≤ n ∧ Tv wr o (Pl.prodL a k) (k + 1) ∧ Below w.heap.size w wr) (fun _ i _ => n - (intOf i).toNat)
  case atStart => exact ⟨0, rfl, Nat.zero_le _, H0.out, hb0⟩
  case round =>
    obtain ⟨k, rfl, hk, ho, hb⟩ := hrel
    have HO := Lib.hid ho
    have hsz := hb.size
    clear ho hb0 H0
    by_cases hlt : k < n
    · obtain ⟨bl, off, e1, hbb, hcl⟩ := HA.out.num (k := k) (by rw [← HN.out]; exact hlt)
      have hcr := (hb.cell (p := ⟨bl, off + k, none⟩) hbb).trans hcl
      obtain ⟨x, hx⟩ : ∃ x, x = a[k]?.getD 0 := ⟨_, rfl⟩
      rw [← hx] at hcr
      have hxc : Fld.to x = Pl.co a k := by rw [hx]; rfl
      have hro := Pl.co_root x
      have hsl := Fld.sub_lt 0 x
      have hsb := rsub_any 0 x wr
      rw [show ((0 : Nat) : Int) = 0 from rfl] at hsb
      obtain ⟨y, hy⟩ : ∃ y, y = Fld.sub 0 x := ⟨_, rfl⟩
      rw [← hy] at hro hsl hsb
      rw [hxc] at hro
      have HRO := Lib.hid hro
      have HSB := Lib.hid hsb
      clear hx hxc hro hsb hy hcl
      subst e1
      go_wp2_with fail
      refine HSB.out.mono ?_
      rintro e w1 ⟨rfl, rfl⟩
      go_wp2_with fail
      have hq : Qv (wr.alloc (.cells #[.int .u64 (y : Int), .int .u64 1] 23)) (.slice (some ⟨wr.heap.size, 0, none⟩) 2 2) (Pl.lin (Pl.co a k)) 2 :=
        ⟨_, 2, 2, [y, 1], rfl, ⟨rfl, rd_news wr [y, 1], Nat.le_refl _, fun e => by cases e⟩, by intro z hz; simp at hz; omega, Nat.le_refl _, HRO.out⟩
      refine (rmul_v (HO.out.new _).q hq (by omega) (by omega)).mono ?_
      rintro e w2 ⟨⟨z, rfl, hz⟩, hb2⟩
      have hb3 := hb.trans ((below_new hb2).mono hsz)
      have hz2 : Tv w2 z (Pl.prodL a (k + 1)) (k + 1 + 1) := by
        have e : Pl.prodL a (k + 1) = Pl.prodL a k * Pl.lin (Pl.co a k) := rfl
        rw [e]
        refine hz.less ?_
        have hd := (Pl.Dg.prodR (a.take (k + 1))).1.2
        rw [Pl.prodR_take a (k + 1) (by rw [← HN.out]; exact hlt), List.length_take, Nat.min_eq_left (by rw [← HN.out]; exact hlt)] at hd
        exact hd
      have HZ := Lib.hid hz2
      clear hz hz2 hq hb2
      go_wp2
      go_roundw
      case rel => exact ⟨k + 1, by go_num, hlt, HZ.out, hb3⟩
      case measure => simp [intOf]; omega
    · have hkn : k = n := by omega
      subst hkn
      go_wp2
      go_ret
      have h := Pl.prodR_take a k (by rw [← HN.out]; exact Nat.le_refl _)
      rw [List.take_of_length_le (by rw [← HN.out]; exact Nat.le_refl _)] at h
      exact ⟨⟨_, rfl, HO.out.to h.symm⟩, hb⟩
end Go.Proofs.Ytalljoneflepiaa
