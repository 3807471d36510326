/-
  SketchTimes, walked: values of two sets without a common element, times each other, are those of both together.
-/
import Derived.Test.YtcbcmnbfflaicaaSkv
import Derived.Deep.RegionHeld3
namespace Go.Proofs.Ytcbcmnbfflaicaa
open Go.RowKit
open Sk (pt Fit)

set_option maxRecDepth 100000 in
set_option maxHeartbeats 8000000 in
theorem times_walk (A B : Option Addr) (n1 c1 n2 c2 : Nat) (l m : List Nat) (z : Int) (w : World) (hA : In w A n1 c1 l) (hB : In w B n2 c2 m) (hz1 : -9223372036854775808 ≤ z) (hz2 : z ≤ 9223372036854775807) :
    Calls Try.prog 8 #[.slice A n1 c1, .slice B n2 c2, .int .i64 z] w fun e w' => e = .returned (.bool true) ∧ Below w.heap.size w w' := by
  have L0 := Lib.hid (hA)
  have M0 := Lib.hid (hB)
  have KB0 := Lib.hid (Below.refl w.heap.size w)
  have HZ := Lib.hid (And.intro hz1 hz2)
  clear hA hB hz1 hz2
  obtain ⟨a, ha⟩ : ∃ a, a = setf l := ⟨_, rfl⟩
  have SA := Lib.hid (show St a by rw [ha]; exact st_set l)
  have LA := Lib.hid (show a.length ≤ 12 by rw [ha]; exact setf_len l)
  have HAE := Lib.hid ha
  clear ha
  obtain ⟨na, hna⟩ : ∃ na, na = a.length := ⟨_, rfl⟩
  have hna12 : na ≤ 12 := by have := LA.out; omega
  have HNA := Lib.hid hna
  clear hna
  go_enter Try.func8, Try.ntmps8
  go_wp2_with fail
  refine (around_v z 20 _ HZ.out.1 HZ.out.2 (by omega) (by omega)).mono ?_
  rintro e w1 ⟨⟨r, hr, rfl⟩, hb1⟩
  have L1 := Lib.hid (L0.out.below hb1)
  have M1 := Lib.hid (M0.out.below hb1)
  have KB1 := Lib.hid (KB0.out.trans (hb1.mono KB0.out.size))
  clear hb1
  obtain ⟨n, hn⟩ : ∃ n, n = 1 + r := ⟨_, rfl⟩
  have s3 : (1 : Int) + (r : Int) = (n : Int) := by omega
  have hnl : n ≤ 20 := by omega
  clear hn
  go_wp2_with fail
  refine (set_v L1.out).mono ?_
  rintro e w2 ⟨⟨z1, rfl, hs1⟩, hb2⟩
  have M2 := Lib.hid (M1.out.below hb2)
  have KB2 := Lib.hid (KB1.out.trans (hb2.mono KB1.out.size))
  clear hb2
  have S2 := Lib.hid hs1
  clear hs1
  rw [← HAE.out] at S2
  obtain ⟨As, ms, cs, rfl, hps, hls, hms⟩ := S2.out
  have hmsn : ms = na := by have := hps.1; have := HNA.out; omega
  subst hmsn
  clear hps hls hms
  go_wp2_with fail
  refine (set_v M2.out).mono ?_
  rintro e w3 ⟨⟨z2, rfl, hs2⟩, hb3⟩
  have S3 := Lib.hid (S2.out.below hb3)
  have KB3 := Lib.hid (KB2.out.trans (hb3.mono KB2.out.size))
  clear hb3
  have T3 := Lib.hid hs2
  clear hs2
  go_wp2_with fail
  refine (only_v T3.out S3.out (by omega) (by omega) (setf_nodup m)).mono ?_
  rintro e w4 ⟨⟨Ax, b, mb, cx, rfl, hmb, hx, hox⟩, hb4⟩
  have S4 := Lib.hid (S3.out.below hb4)
  have KB4 := Lib.hid (KB3.out.trans (hb4.mono KB3.out.size))
  clear hb4
  have X4 := Lib.hid hx
  clear hx
  have SB := Lib.hid (show St b from ⟨hox.nodup, fun v hv => setf_el m v (List.mem_of_mem_take ((hox.mem v).1 hv).1)⟩)
  have hmb12 : mb ≤ 12 := by have h := sub_len (L := setf m) hox.nodup (fun v hv => List.mem_of_mem_take ((hox.mem v).1 hv).1) (setf_el m).lt; have := setf_len m; omega
  have HMB := Lib.hid hmb
  clear hox hmb
  go_wp2_with fail
  refine (of_vn S4.out HNA.out (by omega) (by omega)).mono ?_
  rintro e w5 ⟨⟨A1, e1, rfl, hk1⟩, hb5⟩
  have S5 := Lib.hid (S4.out.below hb5)
  have X5 := Lib.hid (X4.out.below hb5)
  have KB5 := Lib.hid (KB4.out.trans (hb5.mono KB4.out.size))
  clear hb5
  have K5 := Lib.hid hk1
  clear hk1
  have hb6 := (Below.refl w5.heap.size w5).alloc (Nat.le_refl _) ((.cells #[.int .i64 (ms : Int), .slice A1 n e1] 29))
  have S6 := Lib.hid (S5.out.below hb6)
  have X6 := Lib.hid (X5.out.below hb6)
  have K6 := Lib.hid (K5.out.below hb6)
  have KB6 := Lib.hid (KB5.out.trans (hb6.mono KB5.out.size))
  clear hb6
  have BS6 := Lib.hid (Bs.new w5 ms A1 n e1)
  go_wp2_with fail
  refine (of_vn X6.out HMB.out (by omega) (by omega)).mono ?_
  rintro e w7 ⟨⟨A2, e2, rfl, hk2⟩, hb7⟩
  have S7 := Lib.hid (S6.out.below hb7)
  have X7 := Lib.hid (X6.out.below hb7)
  have K7 := Lib.hid (K6.out.below hb7)
  have BS7 := Lib.hid (BS6.out.below hb7)
  have KB7 := Lib.hid (KB6.out.trans (hb7.mono KB6.out.size))
  clear hb7
  have Q7 := Lib.hid hk2
  clear hk2
  have hb8 := (Below.refl w7.heap.size w7).alloc (Nat.le_refl _) ((.cells #[.int .i64 (mb : Int), .slice A2 n e2] 29))
  have S8 := Lib.hid (S7.out.below hb8)
  have X8 := Lib.hid (X7.out.below hb8)
  have K8 := Lib.hid (K7.out.below hb8)
  have BS8 := Lib.hid (BS7.out.below hb8)
  have Q8 := Lib.hid (Q7.out.below hb8)
  have KB8 := Lib.hid (KB7.out.trans (hb8.mono KB7.out.size))
  clear hb8
  have BT8 := Lib.hid (Bs.new w7 mb A2 n e2)
  have hbe := (Below.refl (w7.alloc (.cells #[.int .i64 (mb : Int), .slice A2 n e2] 29)).heap.size (w7.alloc (.cells #[.int .i64 (mb : Int), .slice A2 n e2] 29))).alloc (Nat.le_refl _) (.cells #[] 22)
  have hge := gl_empty (w7.alloc (.cells #[.int .i64 (mb : Int), .slice A2 n e2] 29))
  obtain ⟨wb, hwb⟩ : ∃ wb, wb = w7.alloc (.cells #[.int .i64 (mb : Int), .slice A2 n e2] 29) := ⟨_, rfl⟩
  have hszb : wb.heap.size = w7.heap.size + 1 := by rw [hwb]; simp
  rw [← hwb] at hbe hge S8 X8 K8 BS8 Q8 BT8 KB8
  rw [hszb] at hge
  have HBE2 := Lib.hid hbe
  have HGE := Lib.hid hge
  have HSZB := Lib.hid hszb
  have HWB := Lib.hid hwb
  clear hbe hge hwb hszb
  have hle : w7.heap.size + 1 ≤ (wb.alloc (.cells #[] 22)).heap.size := by rw [World.size_alloc, HSZB.out]; exact Nat.le_succ _
  have HLE := Lib.hid hle
  clear hle
  obtain ⟨Sa, ma, ca, esa, hpa, hla, hma⟩ := S8.out
  obtain ⟨Sx, mx, cx2, esx, hpx, hlx, hmx⟩ := X8.out
  injection esa with e1' e2' e3'
  subst e1' e2' e3'
  injection esx with e1' e2' e3'
  subst e1' e2' e3'
  have HPA := Lib.hid (hpa.below HBE2.out)
  have HPX := Lib.hid hpx
  clear hpa hpx hla hlx hma hmx
  go_wp2_with (first
    | (at_builtin; rw [← HWB.out]; refine wpList_app64 rfl _ _ rfl (w7.heap.size + 1) [] a _ As ms cs HGE.out rfl rfl HPA.out.1 HPA.out.2.1 (fun e => ⟨HPA.out.2.2.2 e, by have h1 := HPA.out.2.2.1; have h2 := HPA.out.2.2.2 e; omega⟩) (by simp; omega) HLE.out ?_; intro z8 w8 hz8 hb8; have HZ8 := Lib.hid hz8; have HB8 := Lib.hid ((by rw [← HSZB.out] at hb8; exact HBE2.out.trans hb8) : Below wb.heap.size wb w8); clear hz8 hb8)
    | (at_builtin; refine wpList_app64 rfl _ _ rfl (w7.heap.size + 1) _ b _ Ax mb cx HZ8.out rfl rfl (HPX.out.below HB8.out).1 (HPX.out.below HB8.out).2.1 (fun e => ⟨HPX.out.2.2.2 e, by have h1 := HPX.out.2.2.1; have h2 := HPX.out.2.2.2 e; omega⟩) (by rw [List.nil_append]; have := HPA.out.1; omega) (by have h := HB8.out.size; have h2 := HSZB.out; omega) ?_; intro z9 w9 hz9 hb9; have HZ9 := Lib.hid hz9; have HB9 := Lib.hid ((by rw [← HSZB.out] at hb9; exact HB8.out.trans hb9) : Below wb.heap.size wb w9); clear hz9 hb9))
  have hnv9 : Nv w9 z9 (a ++ b) 24 := by
    have h := HZ9.out
    rw [List.nil_append] at h
    exact h.nv_ (El.app SA.out.el SB.out.el).big (by rw [List.length_append]; have := LA.out; have := HMB.out; omega)
  have S99 := Lib.hid (S8.out.below HB9.out)
  have X99 := Lib.hid (X8.out.below HB9.out)
  have K99 := Lib.hid (K8.out.below HB9.out)
  have BS99 := Lib.hid (BS8.out.below HB9.out)
  have Q99 := Lib.hid (Q8.out.below HB9.out)
  have BT99 := Lib.hid (BT8.out.below HB9.out)
  have KB99 := Lib.hid (KB8.out.trans (HB9.out.mono KB8.out.size))
  obtain ⟨nu, hnu⟩ : ∃ nu, nu = ms + mb := ⟨_, rfl⟩
  have s4 : (ms : Int) + (mb : Int) = (nu : Int) := by omega
  have hnu2 : nu = (a ++ b).length := by rw [List.length_append]; have := HNA.out; have := HMB.out; omega
  have HNU := Lib.hid hnu2
  have N99 := Lib.hid hnv9
  clear hnu hnu2 hnv9
  go_wp2_with fail
  refine (of_vn N99.out HNU.out (by omega) (by omega)).mono ?_
  rintro e w100 ⟨⟨A3, e3, rfl, hk3⟩, hb100⟩
  have S100 := Lib.hid (S99.out.below hb100)
  have X100 := Lib.hid (X99.out.below hb100)
  have K100 := Lib.hid (K99.out.below hb100)
  have BS100 := Lib.hid (BS99.out.below hb100)
  have Q100 := Lib.hid (Q99.out.below hb100)
  have BT100 := Lib.hid (BT99.out.below hb100)
  have KB100 := Lib.hid (KB99.out.trans (hb100.mono KB99.out.size))
  clear hb100
  have V100 := Lib.hid hk3
  clear hk3
  have hb101 := (Below.refl w100.heap.size w100).alloc (Nat.le_refl _) ((.cells #[.int .i64 (nu : Int), .slice A3 n e3] 29))
  have S101 := Lib.hid (S100.out.below hb101)
  have X101 := Lib.hid (X100.out.below hb101)
  have K101 := Lib.hid (K100.out.below hb101)
  have BS101 := Lib.hid (BS100.out.below hb101)
  have Q101 := Lib.hid (Q100.out.below hb101)
  have BT101 := Lib.hid (BT100.out.below hb101)
  have V101 := Lib.hid (V100.out.below hb101)
  have KB101 := Lib.hid (KB100.out.trans (hb101.mono KB100.out.size))
  clear hb101
  have BU101 := Lib.hid (Bs.new w100 nu A3 n e3)
  obtain ⟨wl, hwl⟩ : ∃ wl, wl = w100.alloc (.cells #[.int .i64 (nu : Int), .slice A3 n e3] 29) := ⟨_, rfl⟩
  have qBS0 := BS101.out.c0
  have qBS1 := BS101.out.c1
  have qBT0 := BT101.out.c0
  have qBT1 := BT101.out.c1
  have qBU0 := BU101.out.c0
  have qBU1 := BU101.out.c1
  go_wp2
  rw [← hwl]
  rw [← hwl] at S101 X101 K101 BS101 Q101 BT101 V101 BU101 KB101
  clear qBS0 qBS1 qBT0 qBT1 qBU0 qBU1
  have HWL := Lib.hid hwl
  clear hwl
  go_loopw [13] (fun i wr => ∃ k j : Nat, k ≤ n ∧ i = .int .i64 (k : Int) ∧ wr = wl.drewN j) (fun i _ => n - (intOf i).toNat)
  case atStart => exact ⟨0, 0, Nat.zero_le _, rfl, rfl⟩
  case round =>
    obtain ⟨k, j, hk, rfl, hwr⟩ := hrel
    have HWR := Lib.hid hwr
    by_cases hlt : k < n
    · have hK : Pt wr A1 n e1 (vls a n) := hwr ▸ K101.out
      have hQ : Pt wr A2 n e2 (vls b n) := hwr ▸ Q101.out
      have hV : Pt wr A3 n e3 (vls (a ++ b) n) := hwr ▸ V101.out
      have g1 : wr.cell? ⟨w5.heap.size, 1, none⟩ = some (.slice A1 n e1) := hwr ▸ BS101.out.c1
      have g2 : wr.cell? ⟨w7.heap.size, 1, none⟩ = some (.slice A2 n e2) := hwr ▸ BT101.out.c1
      have g3 : wr.cell? ⟨w100.heap.size, 1, none⟩ = some (.slice A3 n e3) := hwr ▸ BU101.out.c1
      obtain ⟨o1, f1, rfl, -, h1⟩ := hK.at_ hlt
      obtain ⟨o2, f2, rfl, -, h2⟩ := hQ.at_ hlt
      obtain ⟨o3, f3, rfl, -, h3⟩ := hV.at_ hlt
      have hv1 : (vls a n)[k]?.getD 0 = sv a (pt k) := by unfold vls; rw [Pl.tab_get, if_pos hlt]; rfl
      have hv2 : (vls b n)[k]?.getD 0 = sv b (pt k) := by unfold vls; rw [Pl.tab_get, if_pos hlt]; rfl
      have hv3 : (vls (a ++ b) n)[k]?.getD 0 = Fld.mul (sv a (pt k)) (sv b (pt k)) := by unfold vls; rw [Pl.tab_get, if_pos hlt, ← sv_app]; rfl
      rw [hv1] at h1
      rw [hv2] at h2
      rw [hv3] at h3
      have hl1 := sv_lt a (pt k)
      have hl2 := sv_lt b (pt k)
      obtain ⟨v1, hv1e⟩ : ∃ v1, v1 = sv a (pt k) := ⟨_, rfl⟩
      obtain ⟨v2, hv2e⟩ : ∃ v2, v2 = sv b (pt k) := ⟨_, rfl⟩
      rw [← hv1e] at h1 h3 hl1
      rw [← hv2e] at h2 h3 hl2
      have hmul := mul_any v1 v2 wr.drew (by omega) (by omega)
      obtain ⟨v3, hv3e⟩ : ∃ v3, v3 = Fld.mul v1 v2 := ⟨_, rfl⟩
      rw [← hv3e] at h3 hmul
      have HMUL := Lib.hid hmul
      have k0 := And.intro g3 (And.intro h3 (And.intro g1 (And.intro h1 (And.intro g2 h2))))
      have k1 : wr.drew.cell? ⟨w100.heap.size, 1, none⟩ = some (.slice (some ⟨o3, f3, none⟩) n e3) ∧ wr.drew.cell? ⟨o3, f3 + k, none⟩ = some (.int .u64 (v3 : Int)) ∧ wr.drew.cell? ⟨w5.heap.size, 1, none⟩ = some (.slice (some ⟨o1, f1, none⟩) n e1) ∧ wr.drew.cell? ⟨o1, f1 + k, none⟩ = some (.int .u64 (v1 : Int)) ∧ wr.drew.cell? ⟨w7.heap.size, 1, none⟩ = some (.slice (some ⟨o2, f2, none⟩) n e2) ∧ wr.drew.cell? ⟨o2, f2 + k, none⟩ = some (.int .u64 (v2 : Int)) := k0
      have q0 : (0 : Int) ≤ (k : Int) := by omega
      have q1 : (k : Int) < (n : Int) := by omega
      clear hK hQ hV hv1 hv2 hv3 hl1 hl2 hv1e hv2e hv3e hmul hwr
      go_wp2
      go_region_held3 (fun w' : World => w'.cell? ⟨w100.heap.size, 1, none⟩ = some (.slice (some ⟨o3, f3, none⟩) n e3) ∧ w'.cell? ⟨o3, f3 + k, none⟩ = some (.int .u64 (v3 : Int)) ∧ w'.cell? ⟨w5.heap.size, 1, none⟩ = some (.slice (some ⟨o1, f1, none⟩) n e1) ∧ w'.cell? ⟨o1, f1 + k, none⟩ = some (.int .u64 (v1 : Int)) ∧ w'.cell? ⟨w7.heap.size, 1, none⟩ = some (.slice (some ⟨o2, f2, none⟩) n e2) ∧ w'.cell? ⟨o2, f2 + k, none⟩ = some (.int .u64 (v2 : Int)))
        ((first | with_reducible exact k1 | with_reducible exact k0))
        (first
          | (with_reducible refine (HMUL.out).mono ?_; rintro e w3 ⟨rfl, rfl⟩))
      all_goals go_wp2
      have hwr2 : wr.drew = wl.drewN (j + 1) := by rw [HWR.out]; rfl
      have HWR2 := Lib.hid hwr2
      clear hwr2
      go_roundw
      case rel => exact ⟨k + 1, j + 1, hlt, by go_num, HWR2.out⟩
      case measure => simp [intOf]; omega
    · have hkn : k = n := by omega
      subst hkn
      have hbw : Below w.heap.size w wr := by rw [hwr]; exact below_drewN KB101.out j
      have HBW := Lib.hid hbw
      clear hbw hwr
      go_wp2_with fail
      refine (lives_any _).mono ?_
      rintro e w20 ⟨rfl, hb20⟩
      have HB20 := Lib.hid (HBW.out.trans (hb20.mono HBW.out.size))
      clear hb20
      go_wp2
      go_ret
      exact ⟨rfl, HB20.out⟩

end Go.Proofs.Ytcbcmnbfflaicaa
