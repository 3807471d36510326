/-
  SketchOwn, walked: what is handed in is not changed, and what is told may be.
-/
import Derived.Test.YtcbcmnbfflaicaaSkv
namespace Go.Proofs.Ytcbcmnbfflaicaa
open Go.RowKit
open Sk (pt Fit)

/-- A slice that may be written, from block lo on, below block hi. -/
def Wx (w : World) (lo hi : Nat) (A : Option Addr) (m : Nat) : Prop := m = 0 ∨ ∃ g D L, A = some ⟨g, 0, none⟩ ∧ lo ≤ g ∧ g < hi ∧ L.length = m ∧ Ax w g L D
theorem Wx.at_ {w : World} {lo hi m k : Nat} {A : Option Addr} (h : Wx w lo hi A m) (hk : k < m) : ∃ g v, A = some ⟨g, 0, none⟩ ∧ lo ≤ g ∧ g < hi ∧ w.cell? ⟨g, k, none⟩ = some v ∧ w.frozen? ⟨g, k, none⟩ = false ∧ v.oneCell' = true ∧ (∀ x : Nat, Wx (w.setCell ⟨g, k, none⟩ (.int .u64 (x : Int))) lo hi A m) := by
  rcases h with h | ⟨g, D, L, e, h1, h2, h3, h4⟩
  · omega
  · exact ⟨g, _, e, h1, h2, h4.cell (i := k) (by omega), h4.frozen k, rfl, fun x => .inr ⟨g, D, L.set k x, e, h1, h2, by rw [List.length_set]; exact h3, h4.set_ (by omega) x⟩⟩
theorem Wx.keep {w w' : World} {lo hi m : Nat} {A : Option Addr} (h : Wx w lo hi A m) (hb : ∀ g, lo ≤ g → g < hi → g < w.heap.size → w'.heap[g]? = w.heap[g]?) : Wx w' lo hi A m := by
  rcases h with h | ⟨g, D, L, e, h1, h2, h3, h4⟩
  · exact .inl h
  · exact .inr ⟨g, D, L, e, h1, h2, h3, (hb g h1 h2 (Blk.lt h4)).trans h4⟩
theorem nums_k {w : World} {A : Option Addr} {c : Nat} {a : List Nat} (h : Kt w A c a 8) :
    Calls Try.prog 26 #[.slice A 8 c, .int .i64 8] w fun e w' => (∃ z, e = .returned z ∧ Nv w' z (vls a 8) 8) ∧ Below w.heap.size w w' := by
  have h1 := nums_any (vls a 8) A 8 c 8 w h.1 h.2.2.1 (by omega) h.2.1 h.2.2.2
  refine h1.mono ?_
  rintro e w' ⟨A', c', rfl, ho, hb⟩
  have ht : (vls a 8).take 8 = vls a 8 := List.take_of_length_le (by rw [vls_len]; omega)
  rw [ht] at ho
  have hg : Gl w.heap.size w' (.slice A' (min 8 8) c') (vls a 8) := ⟨A', c', by rw [vls_len]; rfl, by rw [vls_len]; exact ho⟩
  exact ⟨⟨_, rfl, hg.nv_ (vls_sm a 8).big (by rw [vls_len]; omega)⟩, hb⟩
theorem diff_o {w : World} {A A' : Option Addr} {c c' n na nb er : Nat} {a b x y : List Nat} (h : Kt w A c a n) (h' : Kt w A' c' b n) (ha : St a) (hna : na = a.length) (hnb : nb = b.length) (hla : a.length ≤ 1000) (hlb : b.length ≤ 1000) (hn : n ≤ 14) (hd : dfn a b n = (x, y, er)) :
    Calls Try.prog 21 #[.agg #[.int .i64 (na : Int), .slice A n c], .agg #[.int .i64 (nb : Int), .slice A' n c']] w fun e w' => (∃ A1 m1 k1 A2 m2 k2 mid, e = .returned (.tuple #[.slice A1 m1 k1, .slice A2 m2 k2, .int .i64 (er : Int)]) ∧ m1 = x.length ∧ m2 = y.length ∧ Wx w' w.heap.size mid A1 m1 ∧ Wx w' mid w'.heap.size A2 m2 ∧ w.heap.size ≤ mid ∧ m1 ≤ 12 ∧ m2 ≤ 12) ∧ Below w.heap.size w w' := by
  subst hna hnb
  refine (diff_any a.length b.length n c c' A A' (vls a n) (vls b n) w h h' (vls_sm _ _) (vls_sm _ _) (by omega) (by omega) (by omega) (vls_ne ha.el (by omega)) (.inl hn)).mono ?_
  rintro e w' ⟨hr, hb'⟩
  refine ⟨?_, hb'⟩
  rcases hr with ⟨z1, z2, p, q, B1, rfl, hz1, hz2, hB1, hz1o, hfit⟩ | ⟨rfl, hno⟩
  · rw [dfn_fit ha.el (by omega) hfit] at hd
    injection hd with e1 hd
    injection hd with e2 e3
    subst e1 e2 e3
    have hfew := hfit.few
    rw [vls_len] at hfew
    have hx1 := hz1.own_lt
    have hy1 := hz2.own_lt
    obtain ⟨A1, c1, rfl, -, -⟩ := hz1.pt
    obtain ⟨A2, c2, rfl, -, -⟩ := hz2.pt
    refine ⟨A1, _, c1, A2, _, c2, B1, rfl, rfl, rfl, ?_, ?_, hB1, by omega, by omega⟩
    · rcases Nat.eq_zero_or_pos p.length with h0 | h0
      · exact .inl h0
      · obtain ⟨g, c, D, e, hg, _, hax⟩ := hz1.ax h0
        injection e with e1 e2 e3
        subst e1
        exact .inr ⟨g, D, p, rfl, hg, hz1o g rfl, rfl, hax⟩
    · rcases Nat.eq_zero_or_pos q.length with h0 | h0
      · exact .inl h0
      · obtain ⟨g, c, D, e, hg, _, hax⟩ := hz2.ax h0
        injection e with e1 e2 e3
        subst e1
        exact .inr ⟨g, D, q, rfl, hg, hy1 g rfl, rfl, hax⟩
  · rw [dfn_no hno] at hd
    injection hd with e1 hd
    injection hd with e2 e3
    subst e1 e2 e3
    exact ⟨none, 0, 0, none, 0, 0, w.heap.size, rfl, rfl, rfl, .inl rfl, .inl rfl, Nat.le_refl _, by omega, by omega⟩
theorem of_own {w : World} {o : Value} {l : List Nat} {d na : Nat} (h : Nv w o l d) (hna : na = l.length) (hd : d ≤ 1000) :
    Calls Try.prog 13 #[o, .int .i64 8] w fun e w' => (∃ g, e = .returned (.agg #[.int .i64 (na : Int), .slice (some ⟨g, 0, none⟩) 8 8]) ∧ w.heap.size ≤ g ∧ Ar w' g (vls l 8)) ∧ Below w.heap.size w w' := by
  obtain ⟨A, m, c, rfl, hp, hl, hm⟩ := h
  refine (of_set l A m c 8 w hp (by omega) hl (by omega)).mono ?_
  rintro e w' ⟨⟨h0, _⟩ | ⟨_, g, rfl, hg, har⟩, hb⟩
  · omega
  · exact ⟨⟨g, by rw [hna, ← hp.1]; rfl, hg, har⟩, hb⟩

set_option maxRecDepth 100000 in
set_option maxHeartbeats 8000000 in
theorem own_walk (A B : Option Addr) (n1 c1 n2 c2 : Nat) (l m : List Nat) (w : World) (hA : In w A n1 c1 l) (hB : In w B n2 c2 m) :
    Calls Try.prog 10 #[.slice A n1 c1, .slice B n2 c2] w fun e w' => e = .returned (.bool true) ∧ Below w.heap.size w w' := by
  have L0 := Lib.hid (hA)
  have M0 := Lib.hid (hB)
  have KB0 := Lib.hid (Below.refl w.heap.size w)
  clear hA hB
  obtain ⟨a, ha⟩ : ∃ a, a = setf l := ⟨_, rfl⟩
  obtain ⟨b, hb⟩ : ∃ b, b = setf m := ⟨_, rfl⟩
  have SA := Lib.hid (show St a by rw [ha]; exact st_set l)
  have SB := Lib.hid (show St b by rw [hb]; exact st_set m)
  have LA := Lib.hid (show a.length ≤ 12 by rw [ha]; exact setf_len l)
  have LB := Lib.hid (show b.length ≤ 12 by rw [hb]; exact setf_len m)
  have HAE := Lib.hid ha
  have HBE := Lib.hid hb
  clear ha hb
  obtain ⟨na, hna⟩ : ∃ na, na = a.length := ⟨_, rfl⟩
  obtain ⟨nb, hnb⟩ : ∃ nb, nb = b.length := ⟨_, rfl⟩
  have hna12 : na ≤ 12 := by have := LA.out; omega
  have hnb12 : nb ≤ 12 := by have := LB.out; omega
  have HNA := Lib.hid hna
  have HNB := Lib.hid hnb
  clear hna hnb
  obtain ⟨x, y, er, hd⟩ : ∃ x y er, dfn a b 8 = (x, y, er) := ⟨_, _, _, rfl⟩
  have HD := Lib.hid hd
  clear hd
  go_enter Try.func10, Try.ntmps10
  go_wp2_with fail
  refine (set_v L0.out).mono ?_
  rintro e w1 ⟨⟨z1, rfl, hs1⟩, hb1⟩
  have L1 := Lib.hid (L0.out.below hb1)
  have M1 := Lib.hid (M0.out.below hb1)
  have KB1 := Lib.hid (KB0.out.trans (hb1.mono KB0.out.size))
  clear hb1
  have S1 := Lib.hid hs1
  clear hs1
  rw [← HAE.out] at S1
  go_wp2_with fail
  refine (of_vn (n := 8) S1.out HNA.out (by omega) (by omega)).mono ?_
  rintro e w2 ⟨⟨A1, e1, rfl, hk1⟩, hb2⟩
  have L2 := Lib.hid (L1.out.below hb2)
  have M2 := Lib.hid (M1.out.below hb2)
  have S2 := Lib.hid (S1.out.below hb2)
  have KB2 := Lib.hid (KB1.out.trans (hb2.mono KB1.out.size))
  clear hb2
  have K2 := Lib.hid hk1
  clear hk1
  have hb3 := (Below.refl w2.heap.size w2).alloc (Nat.le_refl _) ((.cells #[.int .i64 (na : Int), .slice A1 8 e1] 29))
  have L3 := Lib.hid (L2.out.below hb3)
  have M3 := Lib.hid (M2.out.below hb3)
  have S3 := Lib.hid (S2.out.below hb3)
  have K3 := Lib.hid (K2.out.below hb3)
  have KB3 := Lib.hid (KB2.out.trans (hb3.mono KB2.out.size))
  clear hb3
  have BS3 := Lib.hid (Bs.new w2 na A1 8 e1)
  go_wp2_with fail
  refine (set_v M3.out).mono ?_
  rintro e w4 ⟨⟨z2, rfl, hs2⟩, hb4⟩
  have L4 := Lib.hid (L3.out.below hb4)
  have S4 := Lib.hid (S3.out.below hb4)
  have K4 := Lib.hid (K3.out.below hb4)
  have BS4 := Lib.hid (BS3.out.below hb4)
  have KB4 := Lib.hid (KB3.out.trans (hb4.mono KB3.out.size))
  clear hb4
  have T4 := Lib.hid hs2
  clear hs2
  rw [← HBE.out] at T4
  go_wp2_with fail
  refine (of_vn (n := 8) T4.out HNB.out (by omega) (by omega)).mono ?_
  rintro e w5 ⟨⟨A2, e2, rfl, hk2⟩, hb5⟩
  have L5 := Lib.hid (L4.out.below hb5)
  have S5 := Lib.hid (S4.out.below hb5)
  have K5 := Lib.hid (K4.out.below hb5)
  have BS5 := Lib.hid (BS4.out.below hb5)
  have KB5 := Lib.hid (KB4.out.trans (hb5.mono KB4.out.size))
  clear hb5
  have Q5 := Lib.hid hk2
  clear hk2
  have hb6 := (Below.refl w5.heap.size w5).alloc (Nat.le_refl _) ((.cells #[.int .i64 (nb : Int), .slice A2 8 e2] 29))
  have L6 := Lib.hid (L5.out.below hb6)
  have S6 := Lib.hid (S5.out.below hb6)
  have K6 := Lib.hid (K5.out.below hb6)
  have BS6 := Lib.hid (BS5.out.below hb6)
  have Q6 := Lib.hid (Q5.out.below hb6)
  have KB6 := Lib.hid (KB5.out.trans (hb6.mono KB5.out.size))
  clear hb6
  have BT6 := Lib.hid (Bs.new w5 nb A2 8 e2)
  have qBS0 := BS6.out.c0
  have qBS1 := BS6.out.c1
  have qBT0 := BT6.out.c0
  have qBT1 := BT6.out.c1
  go_wp2_with fail
  refine (nums_k K6.out).mono ?_
  rintro e w7 ⟨⟨u, rfl, hu⟩, hb7⟩
  have L7 := Lib.hid (L6.out.below hb7)
  have S7 := Lib.hid (S6.out.below hb7)
  have K7 := Lib.hid (K6.out.below hb7)
  have BS7 := Lib.hid (BS6.out.below hb7)
  have Q7 := Lib.hid (Q6.out.below hb7)
  have BT7 := Lib.hid (BT6.out.below hb7)
  have KB7 := Lib.hid (KB6.out.trans (hb7.mono KB6.out.size))
  clear hb7
  have U7 := Lib.hid hu
  clear hu
  clear qBS0 qBS1 qBT0 qBT1
  have qBS0 := BS7.out.c0
  have qBS1 := BS7.out.c1
  have qBT0 := BT7.out.c0
  have qBT1 := BT7.out.c1
  go_wp2_with fail
  refine (diff_o K7.out Q7.out SA.out HNA.out HNB.out (by have := LA.out; omega) (by have := LB.out; omega) (by omega) HD.out).mono ?_
  rintro e w8 ⟨⟨X1, m1, k1, Y1, m2, k2, mid, rfl, hm1, hm2, hwx, hwy, hmid, hm1l, hm2l⟩, hb8⟩
  have L8 := Lib.hid (L7.out.below hb8)
  have S8 := Lib.hid (S7.out.below hb8)
  have K8 := Lib.hid (K7.out.below hb8)
  have BS8 := Lib.hid (BS7.out.below hb8)
  have Q8 := Lib.hid (Q7.out.below hb8)
  have BT8 := Lib.hid (BT7.out.below hb8)
  have U8 := Lib.hid (U7.out.below hb8)
  have KB8 := Lib.hid (KB7.out.trans (hb8.mono KB7.out.size))
  have HBD := Lib.hid hb8
  clear hb8
  clear qBS0 qBS1 qBT0 qBT1
  have HM1 := Lib.hid (And.intro hm1 hm2)
  have HWX := Lib.hid hwx
  have HWY := Lib.hid hwy
  have HMID := Lib.hid hmid
  have hszd : w7.heap.size ≤ w8.heap.size := by have h := HBD.out.size; exact h
  have HSZD := Lib.hid hszd
  clear hm1 hm2 hwx hwy hmid hszd
  go_wp2
  go_loopw [12] (fun i wr => ∃ k : Nat, k ≤ m1 ∧ i = .int .i64 (k : Int) ∧ Wx wr w7.heap.size mid X1 m1 ∧ Wx wr mid w8.heap.size Y1 m2 ∧ Below w7.heap.size w8 wr) (fun i _ => m1 - (intOf i).toNat)
  case atStart => exact ⟨0, Nat.zero_le _, rfl, HWX.out, HWY.out, Below.refl _ _⟩
  case round =>
    obtain ⟨k, hk, rfl, hwx, hwy, hbr⟩ := hrel
    by_cases hlt : k < m1
    · obtain ⟨g, v, rfl, hg1, hg2, hc, hf, ho, hset⟩ := hwx.at_ hlt
      have hx7 := hset 7
      have hy7 := hwy.keep (w' := wr.setCell ⟨g, k, none⟩ (.int .u64 ((7 : Nat) : Int))) fun gg h1 _ _ => Below.heap_setCell _ _ _ _ (by show gg ≠ g; omega)
      have hb7 := hbr.setCell (p := ⟨g, k, none⟩) hg1 (.int .u64 ((7 : Nat) : Int))
      have HX7 := Lib.hid hx7
      have HY7 := Lib.hid hy7
      have HB7 := Lib.hid hb7
      have q0 : (0 : Int) ≤ (k : Int) := by omega
      have q1 : (k : Int) < (m1 : Int) := by omega
      clear hset hx7 hy7 hb7 hwx hwy hbr
      go_wp2
      go_roundw
      case rel => exact ⟨k + 1, hlt, by go_num, HX7.out, HY7.out, HB7.out⟩
      case measure => simp [intOf]; omega
    · have hkm : k = m1 := by omega
      subst hkm
      have HY1 := Lib.hid hwy
      have HBR := Lib.hid hbr
      clear hwx hwy hbr
      rename World => wo
      go_wp2
      go_loopw [13] (fun i wr => ∃ j : Nat, j ≤ m2 ∧ i = .int .i64 (j : Int) ∧ Wx wr mid w8.heap.size Y1 m2 ∧ Below w7.heap.size w8 wr) (fun i _ => m2 - (intOf i).toNat)
      case atStart => exact ⟨0, Nat.zero_le _, rfl, HY1.out, HBR.out⟩
      case round =>
        rename World => wf
        obtain ⟨j, hj, rfl, hwy, hbr⟩ := hrel
        by_cases hlt : j < m2
        · obtain ⟨g, v, rfl, hg1, hg2, hc, hf, ho, hset⟩ := hwy.at_ hlt
          have hx7 := hset 7
          have hb7 := hbr.setCell (p := ⟨g, j, none⟩) (by have := HMID.out; show w7.heap.size ≤ g; omega) (.int .u64 ((7 : Nat) : Int))
          have HX7 := Lib.hid hx7
          have HB7 := Lib.hid hb7
          have q0 : (0 : Int) ≤ (j : Int) := by omega
          have q1 : (j : Int) < (m2 : Int) := by omega
          clear hset hx7 hb7 hwy hbr
          go_wp2
          go_roundw
          case rel => exact ⟨j + 1, hlt, by go_num, HX7.out, HB7.out⟩
          case measure => simp [intOf]; omega
        · have hjm : j = m2 := by omega
          subst hjm
          have hbf : Below w7.heap.size w7 wf := HBD.out.trans hbr
          have HBF := Lib.hid hbf
          clear hwy hbr hbf
          have L30 := Lib.hid (L7.out.below HBF.out)
          have S30 := Lib.hid (S7.out.below HBF.out)
          have K30 := Lib.hid (K7.out.below HBF.out)
          have BS30 := Lib.hid (BS7.out.below HBF.out)
          have Q30 := Lib.hid (Q7.out.below HBF.out)
          have BT30 := Lib.hid (BT7.out.below HBF.out)
          have U30 := Lib.hid (U7.out.below HBF.out)
          have KB30 := Lib.hid (KB7.out.trans (HBF.out.mono KB7.out.size))
          have qBS0 := BS30.out.c0
          have qBS1 := BS30.out.c1
          have qBT0 := BT30.out.c0
          have qBT1 := BT30.out.c1
          go_wp2_with fail
          refine (diff_f K30.out Q30.out SA.out HNA.out HNB.out (by have := LA.out; omega) (by have := LB.out; omega) (by omega) HD.out).mono ?_
          rintro e w31 ⟨⟨P1, m3, k3, R1, m4, k4, rfl, hm3, hm4, hp1, hr1⟩, hb31⟩
          have L31 := Lib.hid (L30.out.below hb31)
          have S31 := Lib.hid (S30.out.below hb31)
          have K31 := Lib.hid (K30.out.below hb31)
          have BS31 := Lib.hid (BS30.out.below hb31)
          have Q31 := Lib.hid (Q30.out.below hb31)
          have BT31 := Lib.hid (BT30.out.below hb31)
          have U31 := Lib.hid (U30.out.below hb31)
          have KB31 := Lib.hid (KB30.out.trans (hb31.mono KB30.out.size))
          clear hb31
          obtain rfl : m3 = k := hm3.trans HM1.out.1.symm
          obtain rfl : m4 = j := hm4.trans HM1.out.2.symm
          clear hp1 hr1 hm3 hm4
          clear qBS0 qBS1 qBT0 qBT1
          go_wp2_with fail
          refine (of_own S31.out HNA.out (by omega)).mono ?_
          rintro e w32 ⟨⟨gz, rfl, hgz, harz⟩, hb32⟩
          have L32 := Lib.hid (L31.out.below hb32)
          have S32 := Lib.hid (S31.out.below hb32)
          have K32 := Lib.hid (K31.out.below hb32)
          have BS32 := Lib.hid (BS31.out.below hb32)
          have Q32 := Lib.hid (Q31.out.below hb32)
          have BT32 := Lib.hid (BT31.out.below hb32)
          have U32 := Lib.hid (U31.out.below hb32)
          have KB32 := Lib.hid (KB31.out.trans (hb32.mono KB31.out.size))
          have HBC := Lib.hid hb32
          clear hb32
          have HARZ := Lib.hid harz
          have HGZ := Lib.hid hgz
          obtain ⟨wl, hwl⟩ : ∃ wl, wl = w32.alloc (.cells #[.int .i64 (na : Int), .slice (some ⟨gz, 0, none⟩) 8 8] 29) := ⟨_, rfl⟩
          have hbz := Bs.new w32 na (some ⟨gz, 0, none⟩) 8 8
          have harl := HARZ.out.below ((Below.refl w32.heap.size w32).alloc (Nat.le_refl _) (.cells #[.int .i64 (na : Int), .slice (some ⟨gz, 0, none⟩) 8 8] 29)) HARZ.out.lt
          have hbl2 : Below w31.heap.size w31 (w32.alloc (.cells #[.int .i64 (na : Int), .slice (some ⟨gz, 0, none⟩) 8 8] 29)) := HBC.out.trans ((((Below.refl w32.heap.size w32).alloc (Nat.le_refl _) _)).mono HBC.out.size)
          have hgne : gz ≠ w32.heap.size := by have := HARZ.out.lt; omega
          rw [← hwl] at hbz harl hbl2
          have HWL := Lib.hid hwl
          have HBZ := Lib.hid hbz
          have HARL := Lib.hid harl
          have HBL2 := Lib.hid hbl2
          clear harz hgz hwl hbz harl hbl2
          go_wp2
          rw [← HWL.out]
          go_loopw [18] (fun i wr => ∃ t L, t ≤ 8 ∧ i = .int .i64 ((t : Nat) : Int) ∧ Ar wr gz L ∧ L.length = 8 ∧ Bs wr w32.heap.size na (some ⟨gz, 0, none⟩) 8 8 ∧ Below w31.heap.size w31 wr) (fun i _ => 8 - (intOf i).toNat)
          case atStart => exact ⟨0, vls a 8, by omega, rfl, HARL.out, vls_len _ _, HBZ.out, HBL2.out⟩
          case round =>
            rename World => wg
            obtain ⟨t, Lz, ht, rfl, hat, hlt8, hbt, hbr⟩ := hrel
            have qz0 := hbt.c0
            have qz1 := hbt.c1
            by_cases hlt : t < 8
            · have hc := hat.cell (i := t) (by omega)
              have hf := hat.frozen t
              have hst := hat.set_ t 3
              have hb3 := hbr.setCell (p := ⟨gz, t, none⟩) HGZ.out (.int .u64 ((3 : Nat) : Int))
              have hbz3 : Bs (wg.setCell ⟨gz, t, none⟩ (.int .u64 ((3 : Nat) : Int))) w32.heap.size na (some ⟨gz, 0, none⟩) 8 8 := (Below.heap_setCell _ _ _ _ (by show w32.heap.size ≠ gz; omega)).trans hbt
              have HST := Lib.hid hst
              have HB3 := Lib.hid hb3
              have HBZ3 := Lib.hid hbz3
              have HL8 := Lib.hid hlt8
              have q0 : (0 : Int) ≤ (t : Int) := by omega
              have q1 : (t : Int) < 8 := by omega
              clear hat hbt hbr hst hb3 hbz3 hlt8
              go_wp2
              go_roundw
              case rel => exact ⟨t + 1, Lz.set t 3, hlt, by go_num, HST.out, by rw [List.length_set]; exact HL8.out, HBZ3.out, HB3.out⟩
              case measure => simp [intOf]; omega
            · have ht8 : t = 8 := by omega
              subst ht8
              have HBG := Lib.hid hbr
              clear hat hbt hbr hlt8
              have L50 := Lib.hid (L31.out.below HBG.out)
              have S50 := Lib.hid (S31.out.below HBG.out)
              have K50 := Lib.hid (K31.out.below HBG.out)
              have BS50 := Lib.hid (BS31.out.below HBG.out)
              have Q50 := Lib.hid (Q31.out.below HBG.out)
              have BT50 := Lib.hid (BT31.out.below HBG.out)
              have U50 := Lib.hid (U31.out.below HBG.out)
              have KB50 := Lib.hid (KB31.out.trans (HBG.out.mono KB31.out.size))
              have qBS0 := BS50.out.c0
              have qBS1 := BS50.out.c1
              go_wp2_with fail
              refine (same_v K50.out.nv U50.out (by omega) (by omega) rfl).mono ?_
              rintro e w51 ⟨rfl, hb51⟩
              have L51 := Lib.hid (L50.out.below hb51)
              have S51 := Lib.hid (S50.out.below hb51)
              have K51 := Lib.hid (K50.out.below hb51)
              have BS51 := Lib.hid (BS50.out.below hb51)
              have Q51 := Lib.hid (Q50.out.below hb51)
              have BT51 := Lib.hid (BT50.out.below hb51)
              have U51 := Lib.hid (U50.out.below hb51)
              have KB51 := Lib.hid (KB50.out.trans (hb51.mono KB50.out.size))
              clear hb51
              clear qBS0 qBS1
              go_wp2_with fail
              refine (set_v L51.out).mono ?_
              rintro e w52 ⟨⟨z9, rfl, hz9⟩, hb52⟩
              have L52 := Lib.hid (L51.out.below hb52)
              have S52 := Lib.hid (S51.out.below hb52)
              have K52 := Lib.hid (K51.out.below hb52)
              have BS52 := Lib.hid (BS51.out.below hb52)
              have Q52 := Lib.hid (Q51.out.below hb52)
              have BT52 := Lib.hid (BT51.out.below hb52)
              have U52 := Lib.hid (U51.out.below hb52)
              have KB52 := Lib.hid (KB51.out.trans (hb52.mono KB51.out.size))
              clear hb52
              have Z52 := Lib.hid hz9
              clear hz9
              rw [← HAE.out] at Z52
              go_wp2_with fail
              refine (same_v S52.out Z52.out (by omega) (by omega) rfl).mono ?_
              rintro e w53 ⟨rfl, hb53⟩
              have L53 := Lib.hid (L52.out.below hb53)
              have S53 := Lib.hid (S52.out.below hb53)
              have K53 := Lib.hid (K52.out.below hb53)
              have BS53 := Lib.hid (BS52.out.below hb53)
              have Q53 := Lib.hid (Q52.out.below hb53)
              have BT53 := Lib.hid (BT52.out.below hb53)
              have U53 := Lib.hid (U52.out.below hb53)
              have Z53 := Lib.hid (Z52.out.below hb53)
              have KB53 := Lib.hid (KB52.out.trans (hb53.mono KB52.out.size))
              clear hb53
              go_wp2_with fail
              refine (of_vn (n := 8) S53.out HNA.out (by omega) (by omega)).mono ?_
              rintro e w54 ⟨⟨A9, e9, rfl, hk9⟩, hb54⟩
              have L54 := Lib.hid (L53.out.below hb54)
              have S54 := Lib.hid (S53.out.below hb54)
              have K54 := Lib.hid (K53.out.below hb54)
              have BS54 := Lib.hid (BS53.out.below hb54)
              have Q54 := Lib.hid (Q53.out.below hb54)
              have BT54 := Lib.hid (BT53.out.below hb54)
              have U54 := Lib.hid (U53.out.below hb54)
              have Z54 := Lib.hid (Z53.out.below hb54)
              have KB54 := Lib.hid (KB53.out.trans (hb54.mono KB53.out.size))
              clear hb54
              have V54 := Lib.hid hk9
              clear hk9
              have hfd : ∀ W : World, (Instr.field 29 (.agg #[.int .i64 (na : Int), .slice A9 8 e9]) 1).run Try.prog W = .ok (.slice A9 8 e9) W := fun _ => by kernel_rfl
              go_wp2_with fail
              refine (same_v V54.out.nv U54.out (by omega) (by omega) rfl).mono ?_
              rintro e w55 ⟨rfl, hb55⟩
              have L55 := Lib.hid (L54.out.below hb55)
              have S55 := Lib.hid (S54.out.below hb55)
              have K55 := Lib.hid (K54.out.below hb55)
              have BS55 := Lib.hid (BS54.out.below hb55)
              have Q55 := Lib.hid (Q54.out.below hb55)
              have BT55 := Lib.hid (BT54.out.below hb55)
              have U55 := Lib.hid (U54.out.below hb55)
              have Z55 := Lib.hid (Z54.out.below hb55)
              have V55 := Lib.hid (V54.out.below hb55)
              have KB55 := Lib.hid (KB54.out.trans (hb55.mono KB54.out.size))
              clear hb55
              go_wp2_with fail
              refine (lives_any _).mono ?_
              rintro e w56 ⟨rfl, hb56⟩
              have L56 := Lib.hid (L55.out.below hb56)
              have S56 := Lib.hid (S55.out.below hb56)
              have K56 := Lib.hid (K55.out.below hb56)
              have BS56 := Lib.hid (BS55.out.below hb56)
              have Q56 := Lib.hid (Q55.out.below hb56)
              have BT56 := Lib.hid (BT55.out.below hb56)
              have U56 := Lib.hid (U55.out.below hb56)
              have Z56 := Lib.hid (Z55.out.below hb56)
              have V56 := Lib.hid (V55.out.below hb56)
              have KB56 := Lib.hid (KB55.out.trans (hb56.mono KB55.out.size))
              clear hb56
              go_wp2
              go_ret
              exact ⟨rfl, KB56.out⟩

end Go.Proofs.Ytcbcmnbfflaicaa
