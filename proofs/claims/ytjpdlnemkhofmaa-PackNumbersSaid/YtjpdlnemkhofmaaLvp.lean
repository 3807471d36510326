/-
  The document's example on pack lives.
-/
import Derived.Test.YtjpdlnemkhofmaaAll
namespace Go.Proofs.Ytjpdlnemkhofmaa
open Go.RowKit
attribute [local go_sem ↓] Go.wp_at_zero Go.wp_at_succ

theorem ex1 : [] ++ Pk.nInt (-2) = [3] := by
  have e : Pk.zig (-2) = 3 := by decide
  unfold Pk.nInt
  rw [e, Pk.num_small (by omega)]
  rfl
theorem ex2 : [3] ++ Pk.nText (⟨#[97, 98]⟩ : ByteArray).data.toList = [3, 4, 97, 98] := by
  show [3] ++ Pk.nText [97, 98] = _
  unfold Pk.nText Pk.nInt
  have e : Pk.zig (([97, 98] : List UInt8).length : Nat) = 4 := by decide
  rw [e, Pk.num_small (by omega)]
  rfl
theorem ex3 : [3, 4, 97, 98] ++ Pk.nBool true = [3, 4, 97, 98, 2] := by
  unfold Pk.nBool Pk.nInt
  have e : Pk.zig (if true = true then 1 else 0) = 2 := by decide
  rw [e, Pk.num_small (by omega)]
  rfl
theorem ex4 : [3, 4, 97, 98, 2] ++ Pk.num 200 = [3, 4, 97, 98, 2, 200, 1] := by
  rw [Pk.num_big (by omega), Pk.num_small (by omega)]
  rfl

set_option maxRecDepth 100000 in
set_option maxHeartbeats 800000 in
theorem plives_any (w : World) : Calls Try.prog 15 #[] w fun e w' => e = .returned (.bool true) ∧ Below w.heap.size w w' := by
  have hn := Ou.new w
  have hb0 : Below w.heap.size w (w.alloc (.cells #[.slice none 0 0] 25)) := (Below.refl _ w).alloc (Nat.le_refl _) _
  have H1 := Lib.hid (oint_any (-2) (by omega) (by omega) (by simp) hn)
  obtain ⟨B, hB⟩ : ∃ B, B = w.heap.size := ⟨_, rfl⟩
  rw [← hB] at hb0 H1 ⊢
  have HB0 := Lib.hid hb0
  have e0 : w.heap.size = B := hB.symm
  have HBE := Lib.hid hB
  clear hn hb0 hB
  go_enter Try.func15, Try.ntmps15
  go_wp2_with fail
  refine (H1.out).mono ?_
  rintro e w1 ⟨⟨_, rfl⟩, hou, hb, _⟩
  rw [ex1] at hou
  have H2 := Lib.hid (otext_any ⟨#[97, 98]⟩ (by decide) (by decide) hou)
  have HB1 := Lib.hid (HB0.out.trans hb)
  clear H1 hou hb HB0
  go_wp2_with fail
  refine (H2.out).mono ?_
  rintro e w2 ⟨⟨_, rfl⟩, hou, hb, _⟩
  rw [ex2] at hou
  have H3 := Lib.hid (obool_any true (by decide) hou)
  have HB2 := Lib.hid (HB1.out.trans hb)
  clear H2 hou hb HB1
  go_wp2_with fail
  refine (H3.out).mono ?_
  rintro e w3 ⟨⟨_, rfl⟩, hou, hb, _⟩
  rw [ex3] at hou
  have H4 := Lib.hid (onum_any 200 (by omega) (by decide) hou)
  rw [show ((200 : Nat) : Int) = 200 from rfl] at H4
  have HB3 := Lib.hid (HB2.out.trans hb)
  clear H3 hou hb HB2
  go_wp2_with fail
  refine (H4.out).mono ?_
  rintro e w4 ⟨⟨_, rfl⟩, hou, hb, _⟩
  rw [ex4] at hou
  have H5 := Lib.hid (obytes_any (by decide) hou)
  have HB4 := Lib.hid (HB3.out.trans hb)
  clear H4 hou hb HB3
  go_wp2_with fail
  refine (H5.out).mono ?_
  rintro e w5 ⟨A, c, rfl, ho, hb⟩
  obtain ⟨A1, c1, e, _, _, hrd, _⟩ := own8 ho
  injection e with e1 e2 e3
  subst e1 e3
  have hcv := conv_rd A _ c _ w5 [3, 4, 97, 98, 2, 200, 1] rfl hrd
  have HB5 := Lib.hid (HB4.out.trans (hb.mono (by have := HB4.out.size; have := HBE.out; omega)))
  clear ho hrd hb HB4 H5
  rw [show ([3, 4, 97, 98, 2, 200, 1] : List UInt8).length = 7 from rfl] at hcv ⊢
  go_wp2
  go_ret
  exact ⟨rfl, HB5.out⟩

end Go.Proofs.Ytjpdlnemkhofmaa
