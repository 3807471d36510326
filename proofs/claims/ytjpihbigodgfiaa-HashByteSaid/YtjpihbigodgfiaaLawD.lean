/-
  The statement HashByte: the walk, over natural numbers and lists of bytes. No condition but what fits memory.
-/
import Derived.Test.YtjpihbigodgfiaaLawB
import Derived.Test.YtjpihbigodgfiaaTells
import Derived.Deep.DeepCutAuto
import Derived.Deep.RegionHeld3
namespace Go.Proofs.Ytjpihbigodgfiaa
open Go.RowKit
attribute [local go_sem ↓] Go.wp_at_zero Go.wp_at_succ

theorem xor_byte (a b : Nat) (ha : a < 256) (hb : b < 256) : ∃ z : Nat, z < 256 ∧ bits .xor .u8 (a : Int) (b : Int) = (z : Int) := by
  have h : a ^^^ b < 2 ^ 8 := Nat.xor_lt_two_pow (by omega) (by omega)
  exact ⟨a ^^^ b, h, u8_xor_nat a b ha hb⟩
theorem u8_of (z : Nat) (hz : z < 256) : (UInt8.ofNat z).toNat = z := by rw [UInt8.toNat_ofNat']; omega
theorem u8s_set (l : List UInt8) (i z : Nat) (hz : z < 256) : (u8s l).set i (.int .u8 (z : Int)) = u8s (l.set i (UInt8.ofNat z)) := by
  unfold u8s
  rw [List.map_set, u8_of z hz]

theorem conv_bytes (l : List UInt8) (g K cap B : Nat) (W : World) (hK : K = l.length) (h : Rd B W (some ⟨g, 0, none⟩) (u8s l)) :
    (convert 30 9 (.slice (some ⟨g, 0, none⟩) K cap)).run Try.prog W = .ok (.string ⟨l.toArray⟩) W := by
  rw [hK]
  refine run_convert_bytes_back (P := Try.prog) W 30 9 5 ⟨g, 0, none⟩ cap l Try.underlying30 Try.underlying5 Try.underlying9 fun j hj => ?_
  obtain ⟨b, off, e, _, hcl⟩ := byte_cell h hj
  injection e with e
  injection e with e1 e2
  subst e1 e2
  rw [Addr.add_lit]
  exact hcl
theorem blk_two (W : World) (o : Obj) (t : Nat) (cs : Array Value) : Blk ((W.alloc o).alloc (.cells cs t)) (W.heap.size + 1) t cs := by
  have h := blk_new (W.alloc o) t cs
  rw [World.size_alloc] at h
  exact h
theorem below_alloc {w w' : World} (h : Below w.heap.size w w') (o : Obj) : Below w.heap.size w (w'.alloc o) := h.alloc h.size o

set_option maxRecDepth 100000 in
set_option maxHeartbeats 8000000 in
theorem byte_walk (s : ByteArray) (xs : List UInt8) (A0 : Option Addr) (n0 c0 : Nat) (at_ : Int) (by_ next : Nat) (w : World) (hn0 : n0 = xs.length) (hnc0 : n0 ≤ c0) (hA0 : Rd w.heap.size w A0 (u8s xs)) (hnil0 : A0 = none → c0 = 0)
    (ha1 : -9223372036854775808 ≤ at_) (ha2 : at_ ≤ 9223372036854775807) (hby : by_ < 256) (hnx : next < 256) :
    Calls Try.prog 8 #[.string s, .slice A0 n0 c0, .int .i64 at_, .int .u8 by_, .int .u8 next] w fun e w' => e = .returned (.bool true) ∧ Below w.heap.size w w' := by
  obtain ⟨i0, hi, hz0, hz1, hz2⟩ := info_parts info_u8
  have hfew := few_any xs A0 n0 c0 29 w hn0 hnc0 (by omega) hA0 hnil0
  have HFEW := Lib.hid hfew
  have HN := Lib.hid hn0
  have HI := Lib.hid hi
  have HZ0 := Lib.hid hz0
  have HZ1 := Lib.hid hz1
  have HZ2 := Lib.hid hz2
  clear hfew hn0 hA0 hnil0 hi hz0 hz1 hz2
  go_enter Try.func8, Try.ntmps8
  go_wp2_with fail
  refine (HFEW.out).mono ?_
  rintro e w1 ⟨A1, c1, rfl, hrow, hb1⟩
  have HK := Lib.hid (show min n0 29 = (xs.take 29).length by rw [List.length_take, ← HN.out, Nat.min_comm])
  obtain ⟨k, hk⟩ : ∃ k, k = min n0 29 := ⟨_, rfl⟩
  have hk5 : k ≤ 29 := by omega
  rw [← hk] at HK hrow ⊢
  have HROW := Lib.hid hrow
  obtain ⟨N, hN⟩ : ∃ N, N = xs.take 29 ++ [65] := ⟨_, rfl⟩
  have hNl : k + 1 = N.length := by rw [hN, List.length_append, ← HK.out]; rfl
  have HSN := Lib.hid (show u8s (xs.take 29) ++ [.int .u8 65] = u8s N by rw [hN, u8s_snoc]; rfl)
  have HNL := Lib.hid hNl
  clear hk hrow hN hNl
  go_wp2_with (at_builtin; refine wpList_append_own _ rfl _ _ 30 rfl w.heap.size 5 i0 (.int .u8 0) 1 1 Try.underlying30 HI.out HZ0.out HZ1.out HZ2.out rfl (by decide) _ _ _ rfl (HROW.out.alloc _) ⟨w1.heap.size, 0, none⟩ 1 1 [.int .u8 65] rfl rfl (cell_one_new _ _ _) (by simp [Value.oneCell']) (by unfold maxLen; omega) (by omega) (by have := hb1.size; simp; omega) ?_; intro v' w2 hown' hgrow _; obtain ⟨g1, cap1, rfl⟩ := ownsRow_succ hown'; have HOWN := Lib.hid hown'; clear hown')
  have hg2 : (w1.alloc (.cells #[.int .u8 65] 5)).grownBy w2 (Value.slice A1 k c1).ownBlock := hgrow
  have hb2 : Below w.heap.size w w2 := hb1.trans (((Below.refl _ w1).alloc hb1.size _).grown hg2 (by simp; have := hb1.size; omega) (fun j e => (HROW.out.lt j e).1))
  have hrow2 : w2.ownsRow w.heap.size 5 1 (.slice (some ⟨g1, 0, none⟩) (k + 1) cap1) (k + 1) (u8s N) := HSN.out ▸ HOWN.out
  have hcap : k + 1 ≤ cap1 := by
    rcases hrow2.2 with ⟨h, h0⟩ | ⟨g, cp, _, h, _, _, hle, _⟩
    · omega
    · injection h with _ _ h; omega
  have HR2 := Lib.hid (Rd.of_own hrow2)
  have hfew2 := few_any N (some ⟨g1, 0, none⟩) (k + 1) cap1 30 w2 HNL.out hcap (by omega) HR2.out (fun h => by cases h)
  rw [show min (k + 1) 30 = k + 1 by omega, List.take_of_length_le (by rw [← HNL.out]; omega)] at hfew2
  have HFEW2 := Lib.hid hfew2
  obtain ⟨K, hK⟩ : ∃ K, K = k + 1 := ⟨_, rfl⟩
  have hK0 : 0 < K := by omega
  have hK6 : K ≤ 30 := by omega
  have hKi : (k : Int) + 1 = (K : Int) := by omega
  rw [← hK] at HNL HFEW2 hcap ⊢
  rw [hKi]
  clear hKi hgrow hg2 hrow2 hfew2 hK
  refine (around_any at_ K w2 ha1 ha2 hK0 (by omega)).mono ?_
  rintro e w' ⟨r, hr, rfl, rfl⟩
  go_wp2_with fail
  refine (HFEW2.out).mono ?_
  rintro e w3 ⟨A3, c3, rfl, hrow3, hb3⟩
  obtain ⟨g3, rfl⟩ : ∃ g3, A3 = some ⟨g3, 0, none⟩ := by
    rcases hrow3.2 with ⟨h, h0⟩ | ⟨g, cp, _, h, _⟩
    · omega
    · injection h with h _ _; exact ⟨g, h⟩
  have HROW3 := Lib.hid hrow3
  clear hrow3
  have hrN : r < N.length := by rw [← HNL.out]; exact hr
  have hcell3 : w3.cell? ⟨g3, r, none⟩ = some (.int .u8 ((N[r]).toNat : Int)) := by
    rw [HROW3.out.cellAt r (by omega)]
    simp [u8s, hrN]
  have hfr3 : w3.frozen? ⟨g3, r, none⟩ = false := HROW3.out.frozenAt r
  obtain ⟨z, hz, hxor⟩ := xor_byte (N[r]).toNat by_ (N[r]).toNat_lt hby
  obtain ⟨x, hx⟩ : ∃ x : Nat, x = (N[r]).toNat := ⟨_, rfl⟩
  rw [← hx] at hcell3 hxor
  clear hx
  have q0 : (0 : Int) ≤ (r : Int) := by omega
  have q1 : (r : Int) < (K : Int) := by omega
  go_upto_region 5 with (fail)
  have hst := HROW3.out.stored r (.int .u8 (z : Int))
  obtain ⟨w4, hw4⟩ : ∃ w4, w4 = w3.setCell ⟨g3, r, none⟩ (.int .u8 (z : Int)) := ⟨_, rfl⟩
  rw [← hw4] at hst ⊢
  obtain ⟨hrow4, hgr4⟩ := hst
  have hg3 : w2.heap.size ≤ g3 := (HROW3.out.lt g3 rfl).1
  have hb4 : Below w2.heap.size w2 w4 := hb3.trans (below_only hgr4 hg3 hb3.size)
  rw [u8s_set N r z hz] at hrow4
  have hag : ∀ t, t / 7 ≠ r / 7 → N[t]? = (N.set r (UInt8.ofNat z))[t]? := by
    intro t ht
    rw [List.getElem?_set_ne (by rintro rfl; exact ht rfl)]
  have HROW4 := Lib.hid hrow4
  have HAG := Lib.hid hag
  have HXR := Lib.hid hxor
  clear hw4 hrow4 hgr4 hag hxor hcell3 hfr3 hb3 q0 q1
  go_cut [45] (fun s45 wx => ∃ d : Bool, s45 = .bool d ∧ (d = true → r + 1 < K ∧ (r + 1) % 7 ≠ 0) ∧ w4 = wx)
  case first =>
    by_cases h1 : r + 1 < K
    · have d1 : decide ((r : Int) + 1 < (K : Int)) = true := decide_eq_true (by omega)
      by_cases h2 : (r + 1) % 7 = 0
      · have d2 : ((r : Int) + 1) % 7 = 0 := by omega
        have H1 := Lib.hid h1
        have H2 := Lib.hid h2
        clear h1 h2
        go_wp2_with fail
        go_meet
        exact ⟨false, rfl, fun h => (by cases h), rfl⟩
      · have d2 : (((r : Int) + 1) % 7 != 0) = true := by rw [bne_iff_ne]; omega
        have H1 := Lib.hid h1
        have H2 := Lib.hid h2
        clear h1 h2
        go_wp2_with fail
        go_meet
        exact ⟨true, rfl, fun _ => ⟨H1.out, H2.out⟩, rfl⟩
    · have d1 : decide ((r : Int) + 1 < (K : Int)) = false := decide_eq_false (by omega)
      clear h1
      go_wp2_with fail
      go_meet
      exact ⟨false, rfl, fun h => (by cases h), rfl⟩
  case rest =>
    obtain ⟨d, rfl, hd, rfl⟩ := hcut
    have HD := Lib.hid hd
    clear hd
    go_upto_if 45 with (fail)
    go_cut [] (fun wx => ∃ C : List UInt8, C.length = K ∧ (∀ t, t / 7 ≠ r / 7 → N[t]? = C[t]?) ∧ ∃ W : World, W = wx ∧ W.ownsRow w2.heap.size 5 1 (.slice (some ⟨g3, 0, none⟩) K c3) K (u8s C) ∧ Below w2.heap.size w2 W)
    case first =>
      cases d with
      | false =>
        go_wp2_with fail
        go_meet
        exact ⟨_, by rw [List.length_set]; exact HNL.out.symm, HAG.out, _, rfl, HROW4.out, hb4⟩
      | true =>
        have h12 := HD.out rfl
        obtain ⟨h1, h2⟩ := h12
        have hr1 : r + 1 < (N.set r (UInt8.ofNat z)).length := by rw [List.length_set, ← HNL.out]; exact h1
        obtain ⟨M, hM⟩ : ∃ M, M = N.set r (UInt8.ofNat z) := ⟨_, rfl⟩
        have HROW5 := Lib.hid (hM ▸ HROW4.out)
        have HAG5 := Lib.hid (hM ▸ HAG.out)
        have hMl : M.length = K := by rw [hM, List.length_set]; exact HNL.out.symm
        have hr2 : r + 1 < M.length := by rw [hMl]; exact h1
        have hcell5 : w4.cell? ⟨g3, r + 1, none⟩ = some (.int .u8 ((M[r + 1]).toNat : Int)) := by
          rw [HROW5.out.cellAt (r + 1) (by omega)]
          simp [u8s, hr2]
        have hfr5 : w4.frozen? ⟨g3, r + 1, none⟩ = false := HROW5.out.frozenAt (r + 1)
        obtain ⟨z2, hz2, hxor2⟩ := xor_byte (M[r + 1]).toNat next (M[r + 1]).toNat_lt hnx
        obtain ⟨x2, hx2⟩ : ∃ x : Nat, x = (M[r + 1]).toNat := ⟨_, rfl⟩
        rw [← hx2] at hcell5 hxor2
        have q0 : (0 : Int) ≤ (r : Int) + 1 := by omega
        have q1 : (r : Int) + 1 < (K : Int) := by omega
        have hst5 := HROW5.out.stored (r + 1) (.int .u8 (z2 : Int))
        rw [u8s_set M (r + 1) z2 hz2] at hst5
        have HST5 := Lib.hid hst5
        have HML := Lib.hid hMl
        have hsame : (r + 1) / 7 = r / 7 := by omega
        have HSAME := Lib.hid hsame
        clear h2 hM hx2 hst5 hMl hsame hr1
        go_wp2_with fail
        go_meet
        refine ⟨M.set (r + 1) (UInt8.ofNat z2), by rw [List.length_set]; exact HML.out, fun t ht => ?_, _, rfl, HST5.out.1, hb4.trans (below_only HST5.out.2 hg3 hb4.size)⟩
        rw [HAG5.out t ht, List.getElem?_set_ne (by rintro rfl; exact ht HSAME.out)]
    case rest =>
      obtain ⟨C, hCl, hCag, wx, rfl, hCrow, hCb⟩ := hcut
      have hc3 : K ≤ c3 := by
        rcases hCrow.2 with ⟨h, h0⟩ | ⟨g, cp, _, h, _, _, hle, _⟩
        · omega
        · injection h with _ _ h; omega
      have HC3 := Lib.hid hc3
      clear hc3
      have hRN := (HR2.out.below hCb).more hCb.size
      have hRC := Rd.of_own hCrow
      have hs1 := same_any N C (some ⟨g1, 0, none⟩) (some ⟨g3, 0, none⟩) K cap1 K c3 wx HNL.out hCl.symm (by omega) (by omega) hRN hRC
      obtain ⟨b, hb⟩ : ∃ b : Bool, b = decide (N = C) := ⟨_, rfl⟩
      rw [← hb] at hs1
      have HS1 := Lib.hid hs1
      have HB := Lib.hid hb
      have HCL := Lib.hid hCl
      have HCAG := Lib.hid hCag
      have HRN := Lib.hid hRN
      have HRC := Lib.hid hRC
      clear hb hs1 hCl hCag hCrow hRN hRC
      go_wp2_with fail
      refine (HS1.out).mono ?_
      rintro e w5 ⟨rfl, hb5⟩
      go_wp2_with fail
      refine (short_any s 20 w5 (by omega)).mono ?_
      rintro e w' ⟨t, rfl, ht, rfl⟩
      have hRN5 := (HRN.out.below hb5).more hb5.size
      have hRC5 := (HRC.out.below hb5).more hb5.size
      have hfin : Below w.heap.size w w5 := hb2.trans ((hCb.trans (hb5.mono hCb.size)).mono hb2.size)
      have kb1 := fun (W : World) (hW : Below w5.heap.size w5 W) => (bytes_any t N (some ⟨g1, 0, none⟩) K cap1 W HNL.out hcap (by omega) (by omega) ((hRN5.below hW).more hW.size)).mono fun _ _ ⟨he, hb⟩ => (⟨he, hW.trans (hb.mono hW.size)⟩ : _ ∧ Below w5.heap.size w5 _)
      have kb2 := fun (W : World) (hW : Below w5.heap.size w5 W) => (bytes_any t C (some ⟨g3, 0, none⟩) K c3 W HCL.out.symm HC3.out (by omega) (by omega) ((hRC5.below hW).more hW.size)).mono fun _ _ ⟨he, hb⟩ => (⟨he, hW.trans (hb.mono hW.size)⟩ : _ ∧ Below w5.heap.size w5 _)
      have kl := fun (W : World) (hW : Below w5.heap.size w5 W) => (lives_any W).mono fun _ _ ⟨he, hb⟩ => (⟨he, hW.trans (hb.mono hW.size)⟩ : _ ∧ Below w5.heap.size w5 _)
      have cv1 := fun (W : World) (hW : Below w5.heap.size w5 W) => conv_bytes N g1 K cap1 _ W HNL.out (hRN5.below hW)
      have cv2 := fun (W : World) (hW : Below w5.heap.size w5 W) => conv_bytes C g3 K c3 _ W HCL.out.symm (hRC5.below hW)
      have ko := fun (l : List UInt8) (hl : l.length ≤ 30) (W : World) (g : Nat) (hW : Below w5.heap.size w5 W) (hg : Blk W g 25 #[.int .u64 3]) =>
        (of_any ⟨l.toArray⟩ (some ⟨g, 0, none⟩) 1 1 [3] W (by show l.toArray.size ≤ _; simp; omega) rfl (by omega) (by intro y hy; rw [List.mem_singleton.1 hy]; omega) (fun _ => ⟨g, 0, rfl, hg.lt, fun i u hu => by
          rw [Nat.zero_add, hg.cell i]
          simpa [u64s] using hu⟩)).mono fun _ _ ⟨he, hb⟩ => (⟨he, hW.trans (hb.mono hW.size), hb⟩ : _ ∧ Below w5.heap.size w5 _ ∧ Below W.heap.size W _)
      have ko1 := ko N (by rw [← HNL.out]; exact hK6)
      have ko2 := ko C (by rw [HCL.out]; exact hK6)
      have ht1 := Hsh.bytes_tell t.data.toList N C (r / 7) (by rw [← HNL.out, HCL.out]) HCAG.out
      have ht2 := Hsh.label_tell N C (r / 7) [3] (by rw [← HNL.out, HCL.out]) HCAG.out
      obtain ⟨S1, hS1⟩ : ∃ S, S = ByteArray.mk N.toArray := ⟨_, rfl⟩
      obtain ⟨S2, hS2⟩ : ∃ S, S = ByteArray.mk C.toArray := ⟨_, rfl⟩
      obtain ⟨y1, hy1⟩ : ∃ y : Nat, y = Hsh.bytes t.data.toList N := ⟨_, rfl⟩
      obtain ⟨y2, hy2⟩ : ∃ y : Nat, y = Hsh.bytes t.data.toList C := ⟨_, rfl⟩
      have e3 : Hsh.of (ByteArray.mk N.toArray).data.toList [3] = Hsh.of N [3] := rfl
      have e4 : Hsh.of (ByteArray.mk C.toArray).data.toList [3] = Hsh.of C [3] := rfl
      rw [e3] at ko1
      rw [e4] at ko2
      obtain ⟨y3, hy3⟩ : ∃ y : Nat, y = Hsh.of N [3] := ⟨_, rfl⟩
      obtain ⟨y4, hy4⟩ : ∃ y : Nat, y = Hsh.of C [3] := ⟨_, rfl⟩
      rw [← hS1] at cv1 ko1
      rw [← hS2] at cv2 ko2
      rw [← hy1] at kb1 ht1
      rw [← hy2] at kb2 ht1
      rw [← hy3] at ko1 ht2
      rw [← hy4] at ko2 ht2
      have KB1 := Lib.hid kb1
      have KB2 := Lib.hid kb2
      have KO1 := Lib.hid ko1
      have KO2 := Lib.hid ko2
      have KL := Lib.hid kl
      have CV1 := Lib.hid cv1
      have CV2 := Lib.hid cv2
      have HT1 := Lib.hid ht1
      have HT2 := Lib.hid ht2
      have HFIN := Lib.hid hfin
      clear kb1 kb2 ko1 ko2 ko kl cv1 cv2 ht1 ht2 hfin hS1 hS2 hy1 hy2 hy3 hy4 e3 e4 hRN5 hRC5 hb5
      go_wp2_with fail
      have e1 : ((y1 : Int) == (y2 : Int)) = b := by
        rw [HB.out, Bool.eq_iff_iff, beq_iff_eq, decide_eq_true_iff, ← HT1.out]
        omega
      have e2 : ((y3 : Int) == (y4 : Int)) = b := by
        rw [HB.out, Bool.eq_iff_iff, beq_iff_eq, decide_eq_true_iff, ← HT2.out]
        omega
      have hb0 : Below w5.heap.size w5 w5 := Below.refl _ _
      clear ht hnx hby hcap hK0 hr hrN hz hb4 hg3 hb2 hb1
      go_region_held3 (fun w' : World => (convert 30 9 (.slice (some ⟨g1, 0, none⟩) K cap1)).run Try.prog w' = .ok (.string S1) w' ∧ (convert 30 9 (.slice (some ⟨g3, 0, none⟩) K c3)).run Try.prog w' = .ok (.string S2) w')
        ((exact ⟨CV1.out _ (by (repeat (first | assumption | exact Below.refl _ _ | refine below_to_drew ?_ | refine below_alloc ?_ _))), CV2.out _ (by (repeat (first | assumption | exact Below.refl _ _ | refine below_to_drew ?_ | refine below_alloc ?_ _)))⟩))
        (first
          | (go_at_call 17; ((with_reducible refine (KB1.out _ (by (repeat (first | assumption | exact Below.refl _ _ | refine below_to_drew ?_ | refine below_alloc ?_ _)))).mono ?_); rintro e w6 ⟨rfl, hb6⟩))
          | (go_at_call 17; ((with_reducible refine (KB2.out _ (by (repeat (first | assumption | exact Below.refl _ _ | refine below_to_drew ?_ | refine below_alloc ?_ _)))).mono ?_); rintro e w7 ⟨rfl, hb7⟩))
          | (go_at_call 13; ((with_reducible refine (KO1.out _ _ (by (repeat (first | assumption | exact Below.refl _ _ | refine below_to_drew ?_ | refine below_alloc ?_ _))) (by first | exact blk_new w7 25 #[.int .u64 3] | exact blk_alloc (blk_new w7 25 #[.int .u64 3]) (.cells #[.int .u64 3] 25) | exact blk_two w7 (.cells #[.int .u64 3] 25) 25 #[.int .u64 3])).mono ?_); rintro e w8 ⟨rfl, hb8, hb8W⟩))
          | (go_at_call 13; ((with_reducible refine (KO2.out _ _ (by (repeat (first | assumption | exact Below.refl _ _ | refine below_to_drew ?_ | refine below_alloc ?_ _))) (by first | exact blk_new w8 25 #[.int .u64 3] | exact Blk.below (blk_two w7 (.cells #[.int .u64 3] 25) 25 #[.int .u64 3]) hb8W (by simp) | exact Blk.below (blk_alloc (blk_new w7 25 #[.int .u64 3]) (.cells #[.int .u64 3] 25)) hb8W (by simp; omega))).mono ?_); rintro e w9 ⟨rfl, hb9, _⟩))
          | (go_at_call 15; ((with_reducible refine (KL.out _ (by (repeat (first | assumption | exact Below.refl _ _ | refine below_to_drew ?_ | refine below_alloc ?_ _)))).mono ?_); rintro e w10 ⟨rfl, hb10⟩)))
      all_goals
        go_wp2
        go_ret
        exact ⟨rfl, kept_trans HFIN.out hb10⟩

end Go.Proofs.Ytjpihbigodgfiaa
