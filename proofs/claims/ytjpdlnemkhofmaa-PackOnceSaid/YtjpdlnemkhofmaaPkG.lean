/-
  The statement PackWrites: the walk. No condition but what fits memory.
-/
import Derived.Test.YtjpdlnemkhofmaaPkF
namespace Go.Proofs.Ytjpdlnemkhofmaa
open Go.RowKit
set_option linter.unusedVariables false
set_option linter.unusedSimpArgs false
attribute [local go_sem ↓] Go.wp_at_zero Go.wp_at_succ

theorem Ods.head {B : Nat} {w : World} {A : Option Addr} {os : List Pk.Od} (h : Ods B w A os) (k : Nat) : Ods B w A (os.take k) := fun hp => by
  rw [List.length_take] at hp
  obtain ⟨b, off, e, hlt, hc⟩ := h (by omega)
  refine ⟨b, off, e, hlt, fun i o ho => hc i o ?_⟩
  rw [List.getElem?_take] at ho
  split at ho
  · exact ho
  · cases ho
theorem slice_recs (A : Option Addr) (n c k : Nat) (hk : k ≤ c) (W : World) :
    (Instr.slice 22 (.slice A n c) none (some (.int .i64 (k : Int))) none).run Try.prog W = .ok (.slice A k c) W := by
  have hz : (sizeOf (Try.prog.elem 22)).run Try.prog W = .ok 3 W := by kernel_rfl
  have h := run_slice_h (P := Try.prog) W 22 A n c (by kernel_rfl) .i64 (k : Int) (by omega) (by omega)
  rw [h, hz]
  simp only [Result.andThen, sliced, Int.toNat_natCast, Nat.zero_mul, Nat.sub_zero]
  congr 2
  rcases A with _ | ad
  · simp
  · simp [Addr.add]

/-- Bytes that are answered, as a text, in each world behind. -/
theorem conv_own {B fl c2 : Nat} {A2 : Option Addr} {F : List UInt8} {V : ByteArray} {w2 : World} (hfl : fl = F.length) (hV : V = ⟨F.toArray⟩) (hown : w2.ownsRow B 5 1 (.slice A2 fl c2) fl (u8s F)) :
    ∀ W, Below w2.heap.size w2 W → (convert 23 9 (.slice A2 fl c2)).run Try.prog W = .ok (.string V) W := fun W hW => by
  rw [hV]
  exact conv_rd A2 fl c2 w2.heap.size W F hfl ((own8_rd hown).below hW)
theorem below_two {B : Nat} {w w1 w2 : World} (h1 : Below B w w1) (h2 : Below w1.heap.size w1 w2) (hB : B = w.heap.size) : Below B w w2 :=
  h1.trans (h2.mono (by have := h1.size; omega))

set_option maxRecDepth 100000 in
set_option maxHeartbeats 4000000 in
theorem writes_walk (os : List Pk.Od) (A : Option Addr) (m c : Nat) (w : World) (hm : m = os.length) (hmb : m ≤ 9223372036854775807) (hmc : m ≤ c) (hok : ∀ o ∈ os, o.ok) (hA : Ods w.heap.size w A os) :
    Calls Try.prog 3 #[.slice A m c] w fun e w' => e = .returned (.bool true) ∧ Below w.heap.size w w' := by
  obtain ⟨B, hBe⟩ : ∃ B, B = w.heap.size := ⟨_, rfl⟩
  have hn := Ou.new w
  have hb0 : Below w.heap.size w (w.alloc (.cells #[.slice none 0 0] 25)) := (Below.refl _ w).alloc (Nat.le_refl _) _
  rw [← hBe] at hA hn hb0 ⊢
  have HBS := Lib.hid hBe
  have HM := Lib.hid (And.intro hm hmc)
  have HA := Lib.hid (And.intro hA hok)
  have HN := Lib.hid (And.intro hn hb0)
  have e0 : w.heap.size = B := hBe.symm
  clear hBe hn hb0 hm hA hok hmc
  go_enter Try.func3, Try.ntmps3
  go_wp2
  go_loopw [4] (fun i wr => ∃ (k h : Nat), i = .int .i64 k ∧ k ≤ m ∧ k ≤ 12 ∧ Ou B h wr B (Pk.all (os.take k)) ∧ Below B w wr) (fun i _ => m - (intOf i).toNat)
  case atStart => exact ⟨0, B + 1, rfl, Nat.zero_le _, by omega, HN.out.1, HN.out.2⟩
  case round =>
    obtain ⟨k, h, rfl, hk, hk12, hou, hb⟩ := hrel
    have hsz := hb.size
    have hBw : B ≤ wr.heap.size := by have := HBS.out; omega
    by_cases hc : k < m ∧ k < 12
    · obtain ⟨h1, h2⟩ := hc
      have hkl : k < os.length := by rw [← HM.out.1]; exact h1
      obtain ⟨b, off, hAe, hbB, q0, q1, q2⟩ := (HA.out.1.below hb).at_ hkl
      subst hAe
      have hok := HA.out.2 os[k] (List.getElem_mem hkl)
      have hFl : (Pk.all (os.take k)).length ≤ 600 := by
        have := Pk.all_len (os.take k) fun o ho => HA.out.2 o (List.mem_of_mem_take ho)
        rw [List.length_take] at this
        omega
      have hpb := Pk.put_len os[k] hok
      have hsn : Pk.all (os.take (k + 1)) = Pk.all (os.take k) ++ Pk.put os[k] := by rw [Pk.take_snoc os k hkl, Pk.all_snoc]
      obtain ⟨o, ho⟩ : ∃ o, o = os[k] := ⟨_, rfl⟩
      rw [← ho] at q0 q1 q2 hok hpb hsn
      have hP := lput_any o hok wr (by omega) hou
      rw [← hsn] at hP
      obtain ⟨k1, hk1⟩ : ∃ k1, k1 = k + 1 := ⟨_, rfl⟩
      rw [← hk1] at hP hsn
      have hki : (k : Int) + 1 = (k1 : Int) := by omega
      obtain ⟨F, hF⟩ : ∃ F, F = Pk.all (os.take k1) := ⟨_, rfl⟩
      have hFl1 : F.length ≤ 650 := by rw [hF, hsn, List.length_append]; omega
      rw [← hF] at hP
      have hkc : k1 ≤ c := by have := HM.out.2; omega
      have HR := Lib.hid (fun (W : World) (hbW : Below B w W) => rall_any (os.take k1) (some ⟨b, off, none⟩) k1 c 12 W (by rw [List.length_take]; omega) (by omega) (by omega) (fun o ho => HA.out.2 o (List.mem_of_mem_take ho)) (((HA.out.1.head k1).below hbW).more (by have := hbW.size; have := HBS.out; omega)))
      rw [List.take_of_length_le (by rw [List.length_take]; omega), ← hF, show ((12 : Nat) : Int) = 12 from rfl] at HR
      have HSLC := Lib.hid (fun W => slice_recs (some ⟨b, off, none⟩) m c k1 hkc W)
      obtain ⟨dd, nn, ss⟩ := o
      unfold Pk.odv at hP
      have HP := Lib.hid hP
      have HBEL := Lib.hid hb
      have HFL := Lib.hid hFl1
      have HK1 := Lib.hid hk1
      have HFE := Lib.hid hF
      clear ho hok hpb hsn hP hb hsz hou hk1 hF hFl hFl1 hkl HN
      go_wp2_with fail
      refine (HP.out).mono ?_
      rintro e w1 ⟨⟨_, rfl⟩, hou, hb1, _⟩
      have HB1 := Lib.hid (HBEL.out.trans hb1)
      have HOB := Lib.hid (obytes_any (by have := HFL.out; omega) (show Ou _ _ w1.drew _ F from hou))
      have HOU := Lib.hid hou
      obtain ⟨fl, hfl⟩ : ∃ fl, fl = F.length := ⟨_, rfl⟩
      obtain ⟨V, hV⟩ : ∃ V : ByteArray, V = ⟨F.toArray⟩ := ⟨_, rfl⟩
      have HFL1 := Lib.hid (And.intro hfl hV)
      have hk1b : k1 ≤ 13 := by have := HK1.out; omega
      have q9 : (k1 : Int) ≤ (c : Int) := by omega
      have q8 : ¬ c = 0 := by have := HK1.out; omega
      have q7 : IntKind.i64.wrap (k1 : Int) = (k1 : Int) := by rw [IntKind.wrap_i64]; omega
      unfold Bys at HR
      rw [← hfl] at HOB HR
      clear hou hb1 hfl hV HP HBEL q0 q1 q2
      go_wp2_with fail
      go_region_with (first
        | (go_at_call 13; ((with_reducible refine (HOB.out).mono ?_); rintro e w2 ⟨A2, c2, rfl, hown, hb2⟩; have H2 := Lib.hid (And.intro (conv_own HFL1.out.1 HFL1.out.2 hown) (below_two HB1.out (below_of_drew hb2) HBS.out)); have HU2 := Lib.hid (And.intro (HOU.out.below (below_of_drew hb2) (Nat.le_refl _)) (show w1.heap.size ≤ w2.heap.size from hb2.size)); have hcv := H2.out.1 w2 (Below.refl _ _); clear hown hb2))
        | (go_at_call 14; ((with_reducible refine (HR.out _ H2.out.2).mono ?_); rintro e w3 ⟨A3, c3, rfl, hown, hb3⟩; have H3 := Lib.hid (And.intro (conv_own HFL1.out.1 HFL1.out.2 hown) (below_two H2.out.2 hb3 HBS.out)); have hcv2 := H2.out.1 w3 hb3; have hcv3 := H3.out.1 w3 (Below.refl _ _); have HU3 := Lib.hid (HU2.out.1.below hb3 HU2.out.2); clear hown)))
      all_goals
        have HFN := Lib.hid (show Ou B w1.heap.size w3 B (Pk.all (os.take (k + 1))) ∧ Below B w w3 from ⟨by rw [← HK1.out, ← HFE.out]; exact HU3.out, H3.out.2⟩)
        clear HU3 H3 HU2 H2 hcv hcv2 hcv3 hb3 HOB HR
        go_wp2
        go_roundw
        case rel => exact ⟨k + 1, _, by have := HK1.out; rw [this], h1, h2, HFN.out.1, HFN.out.2⟩
        case measure => have := HK1.out; simp [intOf]; omega
    · have hc2 : ∃ b1 b2 : Bool, decide (k < m) = b1 ∧ decide ((k : Int) < 12) = b2 ∧ (b1 = false ∨ (b1 = true ∧ b2 = false)) := by
        refine ⟨_, _, rfl, rfl, ?_⟩
        simp only [decide_eq_false_iff_not, decide_eq_true_eq]
        omega
      obtain ⟨b1, b2, B1, B2, hc2⟩ := hc2
      have HBEL := Lib.hid hb
      clear hc hb hou hsz
      rcases hc2 with rfl | ⟨rfl, rfl⟩
      all_goals
        go_wp2_with fail
        refine (plives_any _).mono ?_
        rintro e w9 ⟨rfl, hb9⟩
        have hfin : Below B w w9 := HBEL.out.trans (hb9.mono hBw)
        clear hb9
        go_wp2
        go_ret
        exact ⟨rfl, hfin⟩

end Go.Proofs.Ytjpdlnemkhofmaa
