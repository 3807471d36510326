/-
  The statement PackPrefix: the walk. No condition.
-/
import Derived.Test.YtjpdlnemkhofmaaPur
namespace Go.Proofs.Ytjpdlnemkhofmaa
open Go.RowKit
attribute [local go_sem ↓] Go.wp_at_zero Go.wp_at_succ

theorem below_cu {w w1 w2 : World} {C : Nat} (hb : Below w.heap.size w w1) (hC : w.heap.size ≤ C) (hg : w1.grownBy w2 (some C)) : Below w.heap.size w w2 :=
  hb.grown hg hb.size (fun k e => by injection e with e; omega)
theorem put_kinds (o : Pk.Od) : (Pk.aro o.d 7 = 4 → Pk.put o = Pk.num (Pk.u64 o.n)) ∧ (Pk.aro o.d 7 = 5 → Pk.put o = Pk.nName (Pk.nm o.n)) ∧ (Pk.aro o.d 7 = 6 → Pk.put o = Pk.nInt (Pk.aro o.n 21 : Nat)) ∧
    (Pk.aro o.d 7 = 2 → Pk.put o = Pk.nText (o.s.data.toList.take 40)) ∧ (Pk.aro o.d 7 = 3 → Pk.put o = Pk.nBool (decide (o.n.tmod 2 = 0))) ∧ (Pk.aro o.d 7 = 0 ∨ Pk.aro o.d 7 = 1 → Pk.put o = Pk.nInt o.n) := by
  unfold Pk.put
  refine ⟨fun h => by rw [if_pos h], fun h => by rw [if_neg (by omega), if_pos h], fun h => by rw [if_neg (by omega), if_neg (by omega), if_pos h], fun h => by rw [if_neg (by omega), if_neg (by omega), if_neg (by omega), if_pos h],
    fun h => by rw [if_neg (by omega), if_neg (by omega), if_neg (by omega), if_neg (by omega), if_pos h], fun h => by rw [if_neg (by omega), if_neg (by omega), if_neg (by omega), if_neg (by omega), if_neg (by omega)]⟩

theorem own_cap {w : World} {B g n c : Nat} {xs : List Value} (h : w.ownsRow B 5 1 (.slice (some ⟨g, 0, none⟩) n c) n xs) : n ≤ c := by
  rcases h.2 with ⟨h, _⟩ | ⟨g', cap, cur, e, _, _, h, _⟩
  · cases h
  · injection e with _ _ e
    omega
theorem own8_rd {w : World} {B n c : Nat} {A : Option Addr} {l : List UInt8} (h : w.ownsRow B 5 1 (.slice A n c) n (u8s l)) : Rd w.heap.size w A (u8s l) := by
  obtain ⟨A1, c1, e, _, _, hrd, _⟩ := own8 h
  injection e with e1 e2 e3
  subst e1
  exact hrd
set_option maxRecDepth 100000 in
set_option maxHeartbeats 2000000 in
theorem prefix_walk (o : Pk.Od) (ho : o.ok) (a : Int) (w : World) (ha1 : -9223372036854775808 ≤ a) (ha2 : a ≤ 9223372036854775807) :
    Calls Try.prog 7 #[Pk.odv o, .int .i64 a] w fun e w' => e = .returned (.bool true) ∧ Below w.heap.size w w' := by
  have hkinds := put_kinds o
  have hpos := Pk.put_pos o
  have hlen := Pk.put_len o ho
  have hput := rput_any o ho (w.alloc (.cells #[.int .i64 o.d, .int .i64 o.n, .string o.s] 29))
  have hb0 : Below w.heap.size w (w.alloc (.cells #[.int .i64 o.d, .int .i64 o.n, .string o.s] 29)) := (Below.refl _ w).alloc (Nat.le_refl _) _
  have hX := blk_new w 29 #[.int .i64 o.d, .int .i64 o.n, .string o.s]
  obtain ⟨B, hB⟩ : ∃ B, B = w.heap.size := ⟨_, rfl⟩
  rw [← hB] at hb0 hX ⊢
  have e0 : w.heap.size = B := hB.symm
  obtain ⟨L, hL⟩ : ∃ L, L = Pk.put o := ⟨_, rfl⟩
  rw [← hL] at hpos hlen hput hkinds
  obtain ⟨n, hn⟩ : ∃ n, n = L.length := ⟨_, rfl⟩
  have hkn := Pk.aro_lt a (k := n) (by omega)
  have HK := Lib.hid (fun W : World => aro_is a n W ha1 ha2 (by omega) (by omega))
  obtain ⟨k, hk⟩ : ∃ k, k = Pk.aro a n := ⟨_, rfl⟩
  rw [← hk] at hkn HK
  have hlt := Pk.aro_lt o.d (k := 7) (by omega)
  have HAR := Lib.hid (fun W : World => aro_is o.d 7 W ho.1 ho.2.1 (by omega) (by omega))
  rw [show ((7 : Nat) : Int) = 7 from rfl] at HAR
  obtain ⟨r, hr⟩ : ∃ r, r = Pk.aro o.d 7 := ⟨_, rfl⟩
  rw [← hr] at HAR hlt hkinds
  have h7 : r = 4 ∨ r = 5 ∨ r = 6 ∨ r = 2 ∨ r = 3 ∨ r = 0 ∨ r = 1 := by omega
  have HPUT := Lib.hid hput
  have HX := Lib.hid hX
  have HB0 := Lib.hid hb0
  have HN := Lib.hid hn
  have HPOS := Lib.hid hpos
  have HOK := Lib.hid ho
  have HBE := Lib.hid hB
  have hnb : n ≤ 50 := by omega
  have hml : (L.take k).length = k := by rw [List.length_take]; omega
  have HML := Lib.hid hml
  have HKN := Lib.hid hkinds
  clear hput hX hb0 hL hn hk hr hpos hlen hlt ha1 ha2 hkinds hml hB
  unfold Pk.odv at HPUT ⊢
  rcases h7 with rfl | rfl | rfl | rfl | rfl | rfl | rfl
  · have hcut : Pk.pNum (L.take k) = ⟨0, 0, 9⟩ := by
      have hput := HKN.out.1 rfl
      have hkl : k < L.length := by have := HN.out; omega
      rw [hput] at hkl ⊢
      exact Pk.cut_num _ k (Pk.u64_lt _) hkl
    have HCUT := Lib.hid hcut
    clear hcut
    go_enter Try.func7, Try.ntmps7
    go_wp2_with fail
    refine (HPUT.out).mono ?_
    intro e w1 hby
    obtain ⟨g, c, rfl, hown, hbe⟩ := hby.form HPOS.out
    have hbc : k ≤ c := by have := own_cap hown; have := HN.out; omega
    have hsl := slice_head 23 (by kernel_rfl) (fun W => by kernel_rfl) (some ⟨g, 0, none⟩) n c k hbc
    have hrd := (own8_rd hown).take k
    rw [u8s_take] at hrd
    have HOP := Lib.hid (open_any (some ⟨g, 0, none⟩) (L.take k) k c w1 HML.out.symm (by omega) hrd (fun e => by cases e))
    have HX1 := Lib.hid (HX.out.below hbe HX.out.lt)
    have HB1 := Lib.hid (HB0.out.trans (hbe.mono (by have := HBE.out; simp; omega)))
    rw [← HN.out]
    clear hby hown hbe hrd HPUT
    go_wp2_with fail
    refine (HK.out _).mono ?_
    rintro e w2 ⟨rfl, rfl⟩
    go_wp2_with fail
    refine (HOP.out).mono ?_
    rintro e w2 ⟨C, rfl, hCl, hcu, hb2⟩
    have hX2 := HX1.out.below hb2 HX1.out.lt
    have d0 : w2.cell? ⟨B, 0, none⟩ = some (.int .i64 o.d) := hX2.cell 0
    have HCU := Lib.hid hcu
    have hBC : w.heap.size ≤ C := by have := HB1.out.size; have := HBE.out; omega
    have hBw : B ≤ C := by omega
    have HB2 := Lib.hid (HB1.out.trans (hb2.mono (by have := HB1.out.size; have := HBE.out; omega)))
    clear hcu hb2 hX2 HOP HX1 HB1 HK hsl
    go_wp2_with fail
    refine (HAR.out _).mono ?_
    rintro e w3 ⟨rfl, rfl⟩
    have hrd := in_num HCU.out
    rw [List.drop_zero, Pk.stp_ok, HCUT.out] at hrd
    have HBW3 := Lib.hid (show B ≤ w2.heap.size by have := HB2.out.size; have := HBE.out; omega)
    have HRD := Lib.hid hrd
    clear hrd HAR
    go_wp2_with fail
    refine (HRD.out).mono ?_
    rintro e w3 ⟨rfl, hcu, hg⟩
    have HB3 := Lib.hid (HB2.out.grown hg HBW3.out (fun k e => by injection e with e; omega))
    have HCU9 := Lib.hid (show Cu C 75 w3 C (L.take k) 0 9 from hcu)
    have HE := Lib.hid (in_err (show Cu C 75 w3 C (L.take k) 0 9 from hcu))
    clear hcu hg HB2 HRD HCU
    unfold u64v
    go_wp2_with fail
    refine (HE.out).mono ?_
    rintro e w4 ⟨rfl, rfl⟩
    have h1 := in_int HCU9.out
    rw [Pk.stp_bad _ _ (by decide)] at h1
    have H1 := Lib.hid h1
    clear h1
    go_wp2_with fail
    refine (H1.out).mono ?_
    rintro e w4 ⟨rfl, hcu, hg⟩
    have hz := hg.size
    have hcu : Cu C 75 w4 C (L.take k) 0 9 := hcu
    have h2 := in_text hcu
    rw [Pk.stp_bad _ _ (by decide)] at h2
    have H2 := Lib.hid h2
    have HB4 := Lib.hid (HB3.out.grown hg (by have := HB3.out.size; have := HBE.out; omega) (fun k e => by injection e with e; omega))
    clear hcu hg h2 HB3 H1 HCU9 HE
    unfold i64v
    go_wp2_with fail
    refine (H2.out).mono ?_
    rintro e w5 ⟨rfl, hcu, hg⟩
    have hcu : Cu C 75 w5 C (L.take k) 0 9 := hcu
    have h3 := in_bool hcu
    rw [Pk.stp_bad _ _ (by decide)] at h3
    have H3 := Lib.hid h3
    have HB5 := Lib.hid (HB4.out.grown hg (by have := HB4.out.size; have := HBE.out; omega) (fun k e => by injection e with e; omega))
    clear hcu hg h3 HB4 H2
    unfold strv
    go_wp2_with fail
    refine (H3.out).mono ?_
    rintro e w6 ⟨rfl, hcu, hg⟩
    have hcu : Cu C 75 w6 C (L.take k) 0 9 := hcu
    have HB6 := Lib.hid (HB5.out.grown hg (by have := HB5.out.size; have := HBE.out; omega) (fun k e => by injection e with e; omega))
    have HE := Lib.hid (in_err hcu)
    have HEN := Lib.hid (in_end hcu)
    have HLF := Lib.hid (fun m : Nat => in_left (hcu.drew m))
    have hle : (L.take k).length - 0 = k := by rw [Nat.sub_zero]; exact HML.out
    rw [hle] at HLF
    have hen : endd (L.take k).length 0 9 = 9 := by unfold endd; rw [if_neg (fun h => absurd h.1 (by decide))]
    rw [hen] at HEN
    clear hcu hg HB5 H3 hle hen
    go_wp2_with fail
    refine (HE.out).mono ?_
    rintro e w7 ⟨rfl, rfl⟩
    go_wp2_with fail
    refine (HEN.out).mono ?_
    rintro e w7 ⟨rfl, m1, rfl⟩
    go_wp2_with fail
    refine (HLF.out m1).mono ?_
    rintro e w7 ⟨rfl, m2, rfl⟩
    go_wp2_with fail
    refine (plives_any _).mono ?_
    rintro e w7 ⟨rfl, hb7⟩
    have hfin : Below B w w7 := HB6.out.trans (below_of_drewN (k := m1 + m2) (hb7.mono (show B ≤ w6.heap.size from by have := HB6.out.size; have := HBE.out; omega)))
    clear hb7 HB6
    go_wp2
    go_ret
    exact ⟨rfl, hfin⟩
  · have hcut : Pk.pName (L.take k) = ⟨⟨0, 0, 0⟩, 0, 9⟩ := by
      have hput := HKN.out.2.1 rfl
      have hkl : k < L.length := by have := HN.out; omega
      rw [hput] at hkl ⊢
      exact Pk.cut_name _ k (nm_bounds _ HOK.out.2.2.1 HOK.out.2.2.2).1 (nm_bounds _ HOK.out.2.2.1 HOK.out.2.2.2).2.1 HOK.out.2.2.1 HOK.out.2.2.2 (nm_bounds _ HOK.out.2.2.1 HOK.out.2.2.2).2.2 hkl
    have HCUT := Lib.hid hcut
    clear hcut
    go_enter Try.func7, Try.ntmps7
    go_wp2_with fail
    refine (HPUT.out).mono ?_
    intro e w1 hby
    obtain ⟨g, c, rfl, hown, hbe⟩ := hby.form HPOS.out
    have hbc : k ≤ c := by have := own_cap hown; have := HN.out; omega
    have hsl := slice_head 23 (by kernel_rfl) (fun W => by kernel_rfl) (some ⟨g, 0, none⟩) n c k hbc
    have hrd := (own8_rd hown).take k
    rw [u8s_take] at hrd
    have HOP := Lib.hid (open_any (some ⟨g, 0, none⟩) (L.take k) k c w1 HML.out.symm (by omega) hrd (fun e => by cases e))
    have HX1 := Lib.hid (HX.out.below hbe HX.out.lt)
    have HB1 := Lib.hid (HB0.out.trans (hbe.mono (by have := HBE.out; simp; omega)))
    rw [← HN.out]
    clear hby hown hbe hrd HPUT
    go_wp2_with fail
    refine (HK.out _).mono ?_
    rintro e w2 ⟨rfl, rfl⟩
    go_wp2_with fail
    refine (HOP.out).mono ?_
    rintro e w2 ⟨C, rfl, hCl, hcu, hb2⟩
    have hX2 := HX1.out.below hb2 HX1.out.lt
    have d0 : w2.cell? ⟨B, 0, none⟩ = some (.int .i64 o.d) := hX2.cell 0
    have HCU := Lib.hid hcu
    have hBC : w.heap.size ≤ C := by have := HB1.out.size; have := HBE.out; omega
    have hBw : B ≤ C := by omega
    have HB2 := Lib.hid (HB1.out.trans (hb2.mono (by have := HB1.out.size; have := HBE.out; omega)))
    clear hcu hb2 hX2 HOP HX1 HB1 HK hsl
    go_wp2_with fail
    refine (HAR.out _).mono ?_
    rintro e w3 ⟨rfl, rfl⟩
    have hrd := in_name HCU.out
    rw [List.drop_zero, Pk.stp_ok, HCUT.out] at hrd
    have HBW3 := Lib.hid (show B ≤ w2.heap.size by have := HB2.out.size; have := HBE.out; omega)
    have HRD := Lib.hid hrd
    clear hrd HAR
    go_wp2_with fail
    refine (HRD.out).mono ?_
    rintro e w3 ⟨rfl, hcu, hg⟩
    have HB3 := Lib.hid (HB2.out.grown hg HBW3.out (fun k e => by injection e with e; omega))
    have HCU9 := Lib.hid (show Cu C 75 w3 C (L.take k) 0 9 from hcu)
    have HE := Lib.hid (in_err (show Cu C 75 w3 C (L.take k) 0 9 from hcu))
    clear hcu hg HB2 HRD HCU
    unfold nmv
    go_wp2_with fail
    refine (HE.out).mono ?_
    rintro e w4 ⟨rfl, rfl⟩
    have h1 := in_int HCU9.out
    rw [Pk.stp_bad _ _ (by decide)] at h1
    have H1 := Lib.hid h1
    clear h1
    go_wp2_with fail
    refine (H1.out).mono ?_
    rintro e w4 ⟨rfl, hcu, hg⟩
    have hz := hg.size
    have hcu : Cu C 75 w4 C (L.take k) 0 9 := hcu
    have h2 := in_text hcu
    rw [Pk.stp_bad _ _ (by decide)] at h2
    have H2 := Lib.hid h2
    have HB4 := Lib.hid (HB3.out.grown hg (by have := HB3.out.size; have := HBE.out; omega) (fun k e => by injection e with e; omega))
    clear hcu hg h2 HB3 H1 HCU9 HE
    unfold i64v
    go_wp2_with fail
    refine (H2.out).mono ?_
    rintro e w5 ⟨rfl, hcu, hg⟩
    have hcu : Cu C 75 w5 C (L.take k) 0 9 := hcu
    have h3 := in_bool hcu
    rw [Pk.stp_bad _ _ (by decide)] at h3
    have H3 := Lib.hid h3
    have HB5 := Lib.hid (HB4.out.grown hg (by have := HB4.out.size; have := HBE.out; omega) (fun k e => by injection e with e; omega))
    clear hcu hg h3 HB4 H2
    unfold strv
    go_wp2_with fail
    refine (H3.out).mono ?_
    rintro e w6 ⟨rfl, hcu, hg⟩
    have hcu : Cu C 75 w6 C (L.take k) 0 9 := hcu
    have HB6 := Lib.hid (HB5.out.grown hg (by have := HB5.out.size; have := HBE.out; omega) (fun k e => by injection e with e; omega))
    have HE := Lib.hid (in_err hcu)
    have HEN := Lib.hid (in_end hcu)
    have HLF := Lib.hid (fun m : Nat => in_left (hcu.drew m))
    have hle : (L.take k).length - 0 = k := by rw [Nat.sub_zero]; exact HML.out
    rw [hle] at HLF
    have hen : endd (L.take k).length 0 9 = 9 := by unfold endd; rw [if_neg (fun h => absurd h.1 (by decide))]
    rw [hen] at HEN
    clear hcu hg HB5 H3 hle hen
    go_wp2_with fail
    refine (HE.out).mono ?_
    rintro e w7 ⟨rfl, rfl⟩
    go_wp2_with fail
    refine (HEN.out).mono ?_
    rintro e w7 ⟨rfl, m1, rfl⟩
    go_wp2_with fail
    refine (HLF.out m1).mono ?_
    rintro e w7 ⟨rfl, m2, rfl⟩
    go_wp2_with fail
    refine (plives_any _).mono ?_
    rintro e w7 ⟨rfl, hb7⟩
    have hfin : Below B w w7 := HB6.out.trans (below_of_drewN (k := m1 + m2) (hb7.mono (show B ≤ w6.heap.size from by have := HB6.out.size; have := HBE.out; omega)))
    clear hb7 HB6
    go_wp2
    go_ret
    exact ⟨rfl, hfin⟩
  · have hcut : Pk.pMany 20 (L.take k) = ⟨0, 0, 9⟩ := by
      have hput := HKN.out.2.2.1 rfl
      have hkl : k < L.length := by have := HN.out; omega
      rw [hput] at hkl ⊢
      exact Pk.many_bad (Pk.cut_int _ k (by have := Pk.aro_lt o.n (k := 21) (by omega); omega) (by have := Pk.aro_lt o.n (k := 21) (by omega); omega) hkl)
    have HCUT := Lib.hid hcut
    clear hcut
    go_enter Try.func7, Try.ntmps7
    go_wp2_with fail
    refine (HPUT.out).mono ?_
    intro e w1 hby
    obtain ⟨g, c, rfl, hown, hbe⟩ := hby.form HPOS.out
    have hbc : k ≤ c := by have := own_cap hown; have := HN.out; omega
    have hsl := slice_head 23 (by kernel_rfl) (fun W => by kernel_rfl) (some ⟨g, 0, none⟩) n c k hbc
    have hrd := (own8_rd hown).take k
    rw [u8s_take] at hrd
    have HOP := Lib.hid (open_any (some ⟨g, 0, none⟩) (L.take k) k c w1 HML.out.symm (by omega) hrd (fun e => by cases e))
    have HX1 := Lib.hid (HX.out.below hbe HX.out.lt)
    have HB1 := Lib.hid (HB0.out.trans (hbe.mono (by have := HBE.out; simp; omega)))
    rw [← HN.out]
    clear hby hown hbe hrd HPUT
    go_wp2_with fail
    refine (HK.out _).mono ?_
    rintro e w2 ⟨rfl, rfl⟩
    go_wp2_with fail
    refine (HOP.out).mono ?_
    rintro e w2 ⟨C, rfl, hCl, hcu, hb2⟩
    have hX2 := HX1.out.below hb2 HX1.out.lt
    have d0 : w2.cell? ⟨B, 0, none⟩ = some (.int .i64 o.d) := hX2.cell 0
    have HCU := Lib.hid hcu
    have hBC : w.heap.size ≤ C := by have := HB1.out.size; have := HBE.out; omega
    have hBw : B ≤ C := by omega
    have HB2 := Lib.hid (HB1.out.trans (hb2.mono (by have := HB1.out.size; have := HBE.out; omega)))
    clear hcu hb2 hX2 HOP HX1 HB1 HK hsl
    go_wp2_with fail
    refine (HAR.out _).mono ?_
    rintro e w3 ⟨rfl, rfl⟩
    have hrd := in_many 20 (by omega) (by omega) HCU.out
    rw [List.drop_zero, Pk.stp_ok, HCUT.out] at hrd
    have HBW3 := Lib.hid (show B ≤ w2.heap.size by have := HB2.out.size; have := HBE.out; omega)
    have HRD := Lib.hid hrd
    clear hrd HAR
    go_wp2_with fail
    refine (HRD.out).mono ?_
    rintro e w3 ⟨rfl, hcu, hg⟩
    have HB3 := Lib.hid (HB2.out.grown hg HBW3.out (fun k e => by injection e with e; omega))
    have HCU9 := Lib.hid (show Cu C 75 w3 C (L.take k) 0 9 from hcu)
    have HE := Lib.hid (in_err (show Cu C 75 w3 C (L.take k) 0 9 from hcu))
    clear hcu hg HB2 HRD HCU
    unfold i64v
    go_wp2_with fail
    refine (HE.out).mono ?_
    rintro e w4 ⟨rfl, rfl⟩
    have h1 := in_int HCU9.out
    rw [Pk.stp_bad _ _ (by decide)] at h1
    have H1 := Lib.hid h1
    clear h1
    go_wp2_with fail
    refine (H1.out).mono ?_
    rintro e w4 ⟨rfl, hcu, hg⟩
    have hz := hg.size
    have hcu : Cu C 75 w4 C (L.take k) 0 9 := hcu
    have h2 := in_text hcu
    rw [Pk.stp_bad _ _ (by decide)] at h2
    have H2 := Lib.hid h2
    have HB4 := Lib.hid (HB3.out.grown hg (by have := HB3.out.size; have := HBE.out; omega) (fun k e => by injection e with e; omega))
    clear hcu hg h2 HB3 H1 HCU9 HE
    unfold i64v
    go_wp2_with fail
    refine (H2.out).mono ?_
    rintro e w5 ⟨rfl, hcu, hg⟩
    have hcu : Cu C 75 w5 C (L.take k) 0 9 := hcu
    have h3 := in_bool hcu
    rw [Pk.stp_bad _ _ (by decide)] at h3
    have H3 := Lib.hid h3
    have HB5 := Lib.hid (HB4.out.grown hg (by have := HB4.out.size; have := HBE.out; omega) (fun k e => by injection e with e; omega))
    clear hcu hg h3 HB4 H2
    unfold strv
    go_wp2_with fail
    refine (H3.out).mono ?_
    rintro e w6 ⟨rfl, hcu, hg⟩
    have hcu : Cu C 75 w6 C (L.take k) 0 9 := hcu
    have HB6 := Lib.hid (HB5.out.grown hg (by have := HB5.out.size; have := HBE.out; omega) (fun k e => by injection e with e; omega))
    have HE := Lib.hid (in_err hcu)
    have HEN := Lib.hid (in_end hcu)
    have HLF := Lib.hid (fun m : Nat => in_left (hcu.drew m))
    have hle : (L.take k).length - 0 = k := by rw [Nat.sub_zero]; exact HML.out
    rw [hle] at HLF
    have hen : endd (L.take k).length 0 9 = 9 := by unfold endd; rw [if_neg (fun h => absurd h.1 (by decide))]
    rw [hen] at HEN
    clear hcu hg HB5 H3 hle hen
    go_wp2_with fail
    refine (HE.out).mono ?_
    rintro e w7 ⟨rfl, rfl⟩
    go_wp2_with fail
    refine (HEN.out).mono ?_
    rintro e w7 ⟨rfl, m1, rfl⟩
    go_wp2_with fail
    refine (HLF.out m1).mono ?_
    rintro e w7 ⟨rfl, m2, rfl⟩
    go_wp2_with fail
    refine (plives_any _).mono ?_
    rintro e w7 ⟨rfl, hb7⟩
    have hfin : Below B w w7 := HB6.out.trans (below_of_drewN (k := m1 + m2) (hb7.mono (show B ≤ w6.heap.size from by have := HB6.out.size; have := HBE.out; omega)))
    clear hb7 HB6
    go_wp2
    go_ret
    exact ⟨rfl, hfin⟩
  · have hcut : Pk.pText (L.take k) = ⟨[], 0, 9⟩ := by
      have hput := HKN.out.2.2.2.1 rfl
      have hkl : k < L.length := by have := HN.out; omega
      rw [hput] at hkl ⊢
      exact Pk.cut_text _ k (by rw [List.length_take]; omega) hkl
    have HCUT := Lib.hid hcut
    clear hcut
    go_enter Try.func7, Try.ntmps7
    go_wp2_with fail
    refine (HPUT.out).mono ?_
    intro e w1 hby
    obtain ⟨g, c, rfl, hown, hbe⟩ := hby.form HPOS.out
    have hbc : k ≤ c := by have := own_cap hown; have := HN.out; omega
    have hsl := slice_head 23 (by kernel_rfl) (fun W => by kernel_rfl) (some ⟨g, 0, none⟩) n c k hbc
    have hrd := (own8_rd hown).take k
    rw [u8s_take] at hrd
    have HOP := Lib.hid (open_any (some ⟨g, 0, none⟩) (L.take k) k c w1 HML.out.symm (by omega) hrd (fun e => by cases e))
    have HX1 := Lib.hid (HX.out.below hbe HX.out.lt)
    have HB1 := Lib.hid (HB0.out.trans (hbe.mono (by have := HBE.out; simp; omega)))
    rw [← HN.out]
    clear hby hown hbe hrd HPUT
    go_wp2_with fail
    refine (HK.out _).mono ?_
    rintro e w2 ⟨rfl, rfl⟩
    go_wp2_with fail
    refine (HOP.out).mono ?_
    rintro e w2 ⟨C, rfl, hCl, hcu, hb2⟩
    have hX2 := HX1.out.below hb2 HX1.out.lt
    have d0 : w2.cell? ⟨B, 0, none⟩ = some (.int .i64 o.d) := hX2.cell 0
    have HCU := Lib.hid hcu
    have hBC : w.heap.size ≤ C := by have := HB1.out.size; have := HBE.out; omega
    have hBw : B ≤ C := by omega
    have HB2 := Lib.hid (HB1.out.trans (hb2.mono (by have := HB1.out.size; have := HBE.out; omega)))
    clear hcu hb2 hX2 HOP HX1 HB1 HK hsl
    go_wp2_with fail
    refine (HAR.out _).mono ?_
    rintro e w3 ⟨rfl, rfl⟩
    have hrd := in_text HCU.out
    rw [List.drop_zero, Pk.stp_ok, HCUT.out] at hrd
    have HBW3 := Lib.hid (show B ≤ w2.heap.size by have := HB2.out.size; have := HBE.out; omega)
    have HRD := Lib.hid hrd
    clear hrd HAR
    go_wp2_with fail
    refine (HRD.out).mono ?_
    rintro e w3 ⟨rfl, hcu, hg⟩
    have HB3 := Lib.hid (HB2.out.grown hg HBW3.out (fun k e => by injection e with e; omega))
    have HCU9 := Lib.hid (show Cu C 75 w3 C (L.take k) 0 9 from hcu)
    have HE := Lib.hid (in_err (show Cu C 75 w3 C (L.take k) 0 9 from hcu))
    clear hcu hg HB2 HRD HCU
    unfold strv
    go_wp2_with fail
    refine (HE.out).mono ?_
    rintro e w4 ⟨rfl, rfl⟩
    have h1 := in_int HCU9.out
    rw [Pk.stp_bad _ _ (by decide)] at h1
    have H1 := Lib.hid h1
    clear h1
    go_wp2_with fail
    refine (H1.out).mono ?_
    rintro e w4 ⟨rfl, hcu, hg⟩
    have hz := hg.size
    have hcu : Cu C 75 w4 C (L.take k) 0 9 := hcu
    have h2 := in_text hcu
    rw [Pk.stp_bad _ _ (by decide)] at h2
    have H2 := Lib.hid h2
    have HB4 := Lib.hid (HB3.out.grown hg (by have := HB3.out.size; have := HBE.out; omega) (fun k e => by injection e with e; omega))
    clear hcu hg h2 HB3 H1 HCU9 HE
    unfold i64v
    go_wp2_with fail
    refine (H2.out).mono ?_
    rintro e w5 ⟨rfl, hcu, hg⟩
    have hcu : Cu C 75 w5 C (L.take k) 0 9 := hcu
    have h3 := in_bool hcu
    rw [Pk.stp_bad _ _ (by decide)] at h3
    have H3 := Lib.hid h3
    have HB5 := Lib.hid (HB4.out.grown hg (by have := HB4.out.size; have := HBE.out; omega) (fun k e => by injection e with e; omega))
    clear hcu hg h3 HB4 H2
    unfold strv
    go_wp2_with fail
    refine (H3.out).mono ?_
    rintro e w6 ⟨rfl, hcu, hg⟩
    have hcu : Cu C 75 w6 C (L.take k) 0 9 := hcu
    have HB6 := Lib.hid (HB5.out.grown hg (by have := HB5.out.size; have := HBE.out; omega) (fun k e => by injection e with e; omega))
    have HE := Lib.hid (in_err hcu)
    have HEN := Lib.hid (in_end hcu)
    have HLF := Lib.hid (fun m : Nat => in_left (hcu.drew m))
    have hle : (L.take k).length - 0 = k := by rw [Nat.sub_zero]; exact HML.out
    rw [hle] at HLF
    have hen : endd (L.take k).length 0 9 = 9 := by unfold endd; rw [if_neg (fun h => absurd h.1 (by decide))]
    rw [hen] at HEN
    clear hcu hg HB5 H3 hle hen
    go_wp2_with fail
    refine (HE.out).mono ?_
    rintro e w7 ⟨rfl, rfl⟩
    go_wp2_with fail
    refine (HEN.out).mono ?_
    rintro e w7 ⟨rfl, m1, rfl⟩
    go_wp2_with fail
    refine (HLF.out m1).mono ?_
    rintro e w7 ⟨rfl, m2, rfl⟩
    go_wp2_with fail
    refine (plives_any _).mono ?_
    rintro e w7 ⟨rfl, hb7⟩
    have hfin : Below B w w7 := HB6.out.trans (below_of_drewN (k := m1 + m2) (hb7.mono (show B ≤ w6.heap.size from by have := HB6.out.size; have := HBE.out; omega)))
    clear hb7 HB6
    go_wp2
    go_ret
    exact ⟨rfl, hfin⟩
  · have hcut : Pk.pBool (L.take k) = ⟨false, 0, 9⟩ := by
      have hput := HKN.out.2.2.2.2.1 rfl
      have hkl : k < L.length := by have := HN.out; omega
      rw [hput] at hkl ⊢
      exact Pk.cut_bool _ k hkl
    have HCUT := Lib.hid hcut
    clear hcut
    go_enter Try.func7, Try.ntmps7
    go_wp2_with fail
    refine (HPUT.out).mono ?_
    intro e w1 hby
    obtain ⟨g, c, rfl, hown, hbe⟩ := hby.form HPOS.out
    have hbc : k ≤ c := by have := own_cap hown; have := HN.out; omega
    have hsl := slice_head 23 (by kernel_rfl) (fun W => by kernel_rfl) (some ⟨g, 0, none⟩) n c k hbc
    have hrd := (own8_rd hown).take k
    rw [u8s_take] at hrd
    have HOP := Lib.hid (open_any (some ⟨g, 0, none⟩) (L.take k) k c w1 HML.out.symm (by omega) hrd (fun e => by cases e))
    have HX1 := Lib.hid (HX.out.below hbe HX.out.lt)
    have HB1 := Lib.hid (HB0.out.trans (hbe.mono (by have := HBE.out; simp; omega)))
    rw [← HN.out]
    clear hby hown hbe hrd HPUT
    go_wp2_with fail
    refine (HK.out _).mono ?_
    rintro e w2 ⟨rfl, rfl⟩
    go_wp2_with fail
    refine (HOP.out).mono ?_
    rintro e w2 ⟨C, rfl, hCl, hcu, hb2⟩
    have hX2 := HX1.out.below hb2 HX1.out.lt
    have d0 : w2.cell? ⟨B, 0, none⟩ = some (.int .i64 o.d) := hX2.cell 0
    have HCU := Lib.hid hcu
    have hBC : w.heap.size ≤ C := by have := HB1.out.size; have := HBE.out; omega
    have hBw : B ≤ C := by omega
    have HB2 := Lib.hid (HB1.out.trans (hb2.mono (by have := HB1.out.size; have := HBE.out; omega)))
    clear hcu hb2 hX2 HOP HX1 HB1 HK hsl
    go_wp2_with fail
    refine (HAR.out _).mono ?_
    rintro e w3 ⟨rfl, rfl⟩
    have hrd := in_bool HCU.out
    rw [List.drop_zero, Pk.stp_ok, HCUT.out] at hrd
    have HBW3 := Lib.hid (show B ≤ w2.heap.size by have := HB2.out.size; have := HBE.out; omega)
    have HRD := Lib.hid hrd
    clear hrd HAR
    go_wp2_with fail
    refine (HRD.out).mono ?_
    rintro e w3 ⟨rfl, hcu, hg⟩
    have HB3 := Lib.hid (HB2.out.grown hg HBW3.out (fun k e => by injection e with e; omega))
    have HCU9 := Lib.hid (show Cu C 75 w3 C (L.take k) 0 9 from hcu)
    have HE := Lib.hid (in_err (show Cu C 75 w3 C (L.take k) 0 9 from hcu))
    clear hcu hg HB2 HRD HCU
    go_wp2_with fail
    refine (HE.out).mono ?_
    rintro e w4 ⟨rfl, rfl⟩
    have h1 := in_int HCU9.out
    rw [Pk.stp_bad _ _ (by decide)] at h1
    have H1 := Lib.hid h1
    clear h1
    go_wp2_with fail
    refine (H1.out).mono ?_
    rintro e w4 ⟨rfl, hcu, hg⟩
    have hz := hg.size
    have hcu : Cu C 75 w4 C (L.take k) 0 9 := hcu
    have h2 := in_text hcu
    rw [Pk.stp_bad _ _ (by decide)] at h2
    have H2 := Lib.hid h2
    have HB4 := Lib.hid (HB3.out.grown hg (by have := HB3.out.size; have := HBE.out; omega) (fun k e => by injection e with e; omega))
    clear hcu hg h2 HB3 H1 HCU9 HE
    unfold i64v
    go_wp2_with fail
    refine (H2.out).mono ?_
    rintro e w5 ⟨rfl, hcu, hg⟩
    have hcu : Cu C 75 w5 C (L.take k) 0 9 := hcu
    have h3 := in_bool hcu
    rw [Pk.stp_bad _ _ (by decide)] at h3
    have H3 := Lib.hid h3
    have HB5 := Lib.hid (HB4.out.grown hg (by have := HB4.out.size; have := HBE.out; omega) (fun k e => by injection e with e; omega))
    clear hcu hg h3 HB4 H2
    unfold strv
    go_wp2_with fail
    refine (H3.out).mono ?_
    rintro e w6 ⟨rfl, hcu, hg⟩
    have hcu : Cu C 75 w6 C (L.take k) 0 9 := hcu
    have HB6 := Lib.hid (HB5.out.grown hg (by have := HB5.out.size; have := HBE.out; omega) (fun k e => by injection e with e; omega))
    have HE := Lib.hid (in_err hcu)
    have HEN := Lib.hid (in_end hcu)
    have HLF := Lib.hid (fun m : Nat => in_left (hcu.drew m))
    have hle : (L.take k).length - 0 = k := by rw [Nat.sub_zero]; exact HML.out
    rw [hle] at HLF
    have hen : endd (L.take k).length 0 9 = 9 := by unfold endd; rw [if_neg (fun h => absurd h.1 (by decide))]
    rw [hen] at HEN
    clear hcu hg HB5 H3 hle hen
    go_wp2_with fail
    refine (HE.out).mono ?_
    rintro e w7 ⟨rfl, rfl⟩
    go_wp2_with fail
    refine (HEN.out).mono ?_
    rintro e w7 ⟨rfl, m1, rfl⟩
    go_wp2_with fail
    refine (HLF.out m1).mono ?_
    rintro e w7 ⟨rfl, m2, rfl⟩
    go_wp2_with fail
    refine (plives_any _).mono ?_
    rintro e w7 ⟨rfl, hb7⟩
    have hfin : Below B w w7 := HB6.out.trans (below_of_drewN (k := m1 + m2) (hb7.mono (show B ≤ w6.heap.size from by have := HB6.out.size; have := HBE.out; omega)))
    clear hb7 HB6
    go_wp2
    go_ret
    exact ⟨rfl, hfin⟩
  · have hcut : Pk.pInt (L.take k) = ⟨0, 0, 9⟩ := by
      have hput := HKN.out.2.2.2.2.2 (.inl rfl)
      have hkl : k < L.length := by have := HN.out; omega
      rw [hput] at hkl ⊢
      exact Pk.cut_int _ k HOK.out.2.2.1 HOK.out.2.2.2 hkl
    have HCUT := Lib.hid hcut
    clear hcut
    go_enter Try.func7, Try.ntmps7
    go_wp2_with fail
    refine (HPUT.out).mono ?_
    intro e w1 hby
    obtain ⟨g, c, rfl, hown, hbe⟩ := hby.form HPOS.out
    have hbc : k ≤ c := by have := own_cap hown; have := HN.out; omega
    have hsl := slice_head 23 (by kernel_rfl) (fun W => by kernel_rfl) (some ⟨g, 0, none⟩) n c k hbc
    have hrd := (own8_rd hown).take k
    rw [u8s_take] at hrd
    have HOP := Lib.hid (open_any (some ⟨g, 0, none⟩) (L.take k) k c w1 HML.out.symm (by omega) hrd (fun e => by cases e))
    have HX1 := Lib.hid (HX.out.below hbe HX.out.lt)
    have HB1 := Lib.hid (HB0.out.trans (hbe.mono (by have := HBE.out; simp; omega)))
    rw [← HN.out]
    clear hby hown hbe hrd HPUT
    go_wp2_with fail
    refine (HK.out _).mono ?_
    rintro e w2 ⟨rfl, rfl⟩
    go_wp2_with fail
    refine (HOP.out).mono ?_
    rintro e w2 ⟨C, rfl, hCl, hcu, hb2⟩
    have hX2 := HX1.out.below hb2 HX1.out.lt
    have d0 : w2.cell? ⟨B, 0, none⟩ = some (.int .i64 o.d) := hX2.cell 0
    have HCU := Lib.hid hcu
    have hBC : w.heap.size ≤ C := by have := HB1.out.size; have := HBE.out; omega
    have hBw : B ≤ C := by omega
    have HB2 := Lib.hid (HB1.out.trans (hb2.mono (by have := HB1.out.size; have := HBE.out; omega)))
    clear hcu hb2 hX2 HOP HX1 HB1 HK hsl
    go_wp2_with fail
    refine (HAR.out _).mono ?_
    rintro e w3 ⟨rfl, rfl⟩
    have hrd := in_int HCU.out
    rw [List.drop_zero, Pk.stp_ok, HCUT.out] at hrd
    have HBW3 := Lib.hid (show B ≤ w2.heap.size by have := HB2.out.size; have := HBE.out; omega)
    have HRD := Lib.hid hrd
    clear hrd HAR
    go_wp2_with fail
    refine (HRD.out).mono ?_
    rintro e w3 ⟨rfl, hcu, hg⟩
    have HB3 := Lib.hid (HB2.out.grown hg HBW3.out (fun k e => by injection e with e; omega))
    have HCU9 := Lib.hid (show Cu C 75 w3 C (L.take k) 0 9 from hcu)
    have HE := Lib.hid (in_err (show Cu C 75 w3 C (L.take k) 0 9 from hcu))
    clear hcu hg HB2 HRD HCU
    unfold i64v
    go_wp2_with fail
    refine (HE.out).mono ?_
    rintro e w4 ⟨rfl, rfl⟩
    have h1 := in_int HCU9.out
    rw [Pk.stp_bad _ _ (by decide)] at h1
    have H1 := Lib.hid h1
    clear h1
    go_wp2_with fail
    refine (H1.out).mono ?_
    rintro e w4 ⟨rfl, hcu, hg⟩
    have hz := hg.size
    have hcu : Cu C 75 w4 C (L.take k) 0 9 := hcu
    have h2 := in_text hcu
    rw [Pk.stp_bad _ _ (by decide)] at h2
    have H2 := Lib.hid h2
    have HB4 := Lib.hid (HB3.out.grown hg (by have := HB3.out.size; have := HBE.out; omega) (fun k e => by injection e with e; omega))
    clear hcu hg h2 HB3 H1 HCU9 HE
    unfold i64v
    go_wp2_with fail
    refine (H2.out).mono ?_
    rintro e w5 ⟨rfl, hcu, hg⟩
    have hcu : Cu C 75 w5 C (L.take k) 0 9 := hcu
    have h3 := in_bool hcu
    rw [Pk.stp_bad _ _ (by decide)] at h3
    have H3 := Lib.hid h3
    have HB5 := Lib.hid (HB4.out.grown hg (by have := HB4.out.size; have := HBE.out; omega) (fun k e => by injection e with e; omega))
    clear hcu hg h3 HB4 H2
    unfold strv
    go_wp2_with fail
    refine (H3.out).mono ?_
    rintro e w6 ⟨rfl, hcu, hg⟩
    have hcu : Cu C 75 w6 C (L.take k) 0 9 := hcu
    have HB6 := Lib.hid (HB5.out.grown hg (by have := HB5.out.size; have := HBE.out; omega) (fun k e => by injection e with e; omega))
    have HE := Lib.hid (in_err hcu)
    have HEN := Lib.hid (in_end hcu)
    have HLF := Lib.hid (fun m : Nat => in_left (hcu.drew m))
    have hle : (L.take k).length - 0 = k := by rw [Nat.sub_zero]; exact HML.out
    rw [hle] at HLF
    have hen : endd (L.take k).length 0 9 = 9 := by unfold endd; rw [if_neg (fun h => absurd h.1 (by decide))]
    rw [hen] at HEN
    clear hcu hg HB5 H3 hle hen
    go_wp2_with fail
    refine (HE.out).mono ?_
    rintro e w7 ⟨rfl, rfl⟩
    go_wp2_with fail
    refine (HEN.out).mono ?_
    rintro e w7 ⟨rfl, m1, rfl⟩
    go_wp2_with fail
    refine (HLF.out m1).mono ?_
    rintro e w7 ⟨rfl, m2, rfl⟩
    go_wp2_with fail
    refine (plives_any _).mono ?_
    rintro e w7 ⟨rfl, hb7⟩
    have hfin : Below B w w7 := HB6.out.trans (below_of_drewN (k := m1 + m2) (hb7.mono (show B ≤ w6.heap.size from by have := HB6.out.size; have := HBE.out; omega)))
    clear hb7 HB6
    go_wp2
    go_ret
    exact ⟨rfl, hfin⟩
  · have hcut : Pk.pInt (L.take k) = ⟨0, 0, 9⟩ := by
      have hput := HKN.out.2.2.2.2.2 (.inr rfl)
      have hkl : k < L.length := by have := HN.out; omega
      rw [hput] at hkl ⊢
      exact Pk.cut_int _ k HOK.out.2.2.1 HOK.out.2.2.2 hkl
    have HCUT := Lib.hid hcut
    clear hcut
    go_enter Try.func7, Try.ntmps7
    go_wp2_with fail
    refine (HPUT.out).mono ?_
    intro e w1 hby
    obtain ⟨g, c, rfl, hown, hbe⟩ := hby.form HPOS.out
    have hbc : k ≤ c := by have := own_cap hown; have := HN.out; omega
    have hsl := slice_head 23 (by kernel_rfl) (fun W => by kernel_rfl) (some ⟨g, 0, none⟩) n c k hbc
    have hrd := (own8_rd hown).take k
    rw [u8s_take] at hrd
    have HOP := Lib.hid (open_any (some ⟨g, 0, none⟩) (L.take k) k c w1 HML.out.symm (by omega) hrd (fun e => by cases e))
    have HX1 := Lib.hid (HX.out.below hbe HX.out.lt)
    have HB1 := Lib.hid (HB0.out.trans (hbe.mono (by have := HBE.out; simp; omega)))
    rw [← HN.out]
    clear hby hown hbe hrd HPUT
    go_wp2_with fail
    refine (HK.out _).mono ?_
    rintro e w2 ⟨rfl, rfl⟩
    go_wp2_with fail
    refine (HOP.out).mono ?_
    rintro e w2 ⟨C, rfl, hCl, hcu, hb2⟩
    have hX2 := HX1.out.below hb2 HX1.out.lt
    have d0 : w2.cell? ⟨B, 0, none⟩ = some (.int .i64 o.d) := hX2.cell 0
    have HCU := Lib.hid hcu
    have hBC : w.heap.size ≤ C := by have := HB1.out.size; have := HBE.out; omega
    have hBw : B ≤ C := by omega
    have HB2 := Lib.hid (HB1.out.trans (hb2.mono (by have := HB1.out.size; have := HBE.out; omega)))
    clear hcu hb2 hX2 HOP HX1 HB1 HK hsl
    go_wp2_with fail
    refine (HAR.out _).mono ?_
    rintro e w3 ⟨rfl, rfl⟩
    have hrd := in_int HCU.out
    rw [List.drop_zero, Pk.stp_ok, HCUT.out] at hrd
    have HBW3 := Lib.hid (show B ≤ w2.heap.size by have := HB2.out.size; have := HBE.out; omega)
    have HRD := Lib.hid hrd
    clear hrd HAR
    go_wp2_with fail
    refine (HRD.out).mono ?_
    rintro e w3 ⟨rfl, hcu, hg⟩
    have HB3 := Lib.hid (HB2.out.grown hg HBW3.out (fun k e => by injection e with e; omega))
    have HCU9 := Lib.hid (show Cu C 75 w3 C (L.take k) 0 9 from hcu)
    have HE := Lib.hid (in_err (show Cu C 75 w3 C (L.take k) 0 9 from hcu))
    clear hcu hg HB2 HRD HCU
    unfold i64v
    go_wp2_with fail
    refine (HE.out).mono ?_
    rintro e w4 ⟨rfl, rfl⟩
    have h1 := in_int HCU9.out
    rw [Pk.stp_bad _ _ (by decide)] at h1
    have H1 := Lib.hid h1
    clear h1
    go_wp2_with fail
    refine (H1.out).mono ?_
    rintro e w4 ⟨rfl, hcu, hg⟩
    have hz := hg.size
    have hcu : Cu C 75 w4 C (L.take k) 0 9 := hcu
    have h2 := in_text hcu
    rw [Pk.stp_bad _ _ (by decide)] at h2
    have H2 := Lib.hid h2
    have HB4 := Lib.hid (HB3.out.grown hg (by have := HB3.out.size; have := HBE.out; omega) (fun k e => by injection e with e; omega))
    clear hcu hg h2 HB3 H1 HCU9 HE
    unfold i64v
    go_wp2_with fail
    refine (H2.out).mono ?_
    rintro e w5 ⟨rfl, hcu, hg⟩
    have hcu : Cu C 75 w5 C (L.take k) 0 9 := hcu
    have h3 := in_bool hcu
    rw [Pk.stp_bad _ _ (by decide)] at h3
    have H3 := Lib.hid h3
    have HB5 := Lib.hid (HB4.out.grown hg (by have := HB4.out.size; have := HBE.out; omega) (fun k e => by injection e with e; omega))
    clear hcu hg h3 HB4 H2
    unfold strv
    go_wp2_with fail
    refine (H3.out).mono ?_
    rintro e w6 ⟨rfl, hcu, hg⟩
    have hcu : Cu C 75 w6 C (L.take k) 0 9 := hcu
    have HB6 := Lib.hid (HB5.out.grown hg (by have := HB5.out.size; have := HBE.out; omega) (fun k e => by injection e with e; omega))
    have HE := Lib.hid (in_err hcu)
    have HEN := Lib.hid (in_end hcu)
    have HLF := Lib.hid (fun m : Nat => in_left (hcu.drew m))
    have hle : (L.take k).length - 0 = k := by rw [Nat.sub_zero]; exact HML.out
    rw [hle] at HLF
    have hen : endd (L.take k).length 0 9 = 9 := by unfold endd; rw [if_neg (fun h => absurd h.1 (by decide))]
    rw [hen] at HEN
    clear hcu hg HB5 H3 hle hen
    go_wp2_with fail
    refine (HE.out).mono ?_
    rintro e w7 ⟨rfl, rfl⟩
    go_wp2_with fail
    refine (HEN.out).mono ?_
    rintro e w7 ⟨rfl, m1, rfl⟩
    go_wp2_with fail
    refine (HLF.out m1).mono ?_
    rintro e w7 ⟨rfl, m2, rfl⟩
    go_wp2_with fail
    refine (plives_any _).mono ?_
    rintro e w7 ⟨rfl, hb7⟩
    have hfin : Below B w w7 := HB6.out.trans (below_of_drewN (k := m1 + m2) (hb7.mono (show B ≤ w6.heap.size from by have := HB6.out.size; have := HBE.out; omega)))
    clear hb7 HB6
    go_wp2
    go_ret
    exact ⟨rfl, hfin⟩

end Go.Proofs.Ytjpdlnemkhofmaa
