/-
  PolyTells: sum, product, value, and what is trimmed, is the document's.
-/
import Derived.Test.YtalljoneflepiaaVls
namespace Go.Proofs.Ytalljoneflepiaa
open Go.RowKit

set_option maxRecDepth 100000 in
set_option maxHeartbeats 4000000 in
theorem tells_walk (A A2 : Option Addr) (n c m c2 x : Nat) (l l2 : List Nat) (w : World) (hA : In w A n c l) (hB : In w A2 m c2 l2) (hx : x < 18446744073709551616) :
    Calls Try.prog 3 #[.slice A n c, .slice A2 m c2, .int .u64 (x : Int)] w fun e w' => e = .returned (.bool true) ∧ Below w.heap.size w w' := by
  have A0 := Lib.hid hA
  have B0 := Lib.hid hB
  have hk0 : Below w.heap.size w w := Below.refl _ _
  clear hA hB
  go_enter Try.func3, Try.ntmps3
  go_wp2_with fail
  refine (few_v A0.out).mono ?_
  rintro e w1 ⟨⟨p, rfl, hp⟩, hb1⟩
  have hk1 := kept_trans hk0 hb1
  have B1 := Lib.hid (B0.out.below hb1)
  have P1 := Lib.hid hp
  clear hb1 hk0 A0 B0 hp
  go_wp2_with fail
  refine (few_v B1.out).mono ?_
  rintro e w2 ⟨⟨q, rfl, hq⟩, hb2⟩
  have hk2 := kept_trans hk1 hb2
  have P2 := Lib.hid (P1.out.below hb2)
  have Q2 := Lib.hid hq
  clear hb2 hk1 B1 P1 hq
  go_wp2_with fail
  refine (trim_v P2.out (by omega)).mono ?_
  rintro e w3 ⟨⟨z1, rfl, h1⟩, hb3⟩
  have hk3 := kept_trans hk2 hb3
  have P3 := Lib.hid (P2.out.below hb3)
  have Q3 := Lib.hid (Q2.out.below hb3)
  have C3 := Lib.hid h1
  clear hb3 hk2 P2 Q2 h1
  go_wp2_with fail
  refine (rtrim_v P3.out (by omega)).mono ?_
  rintro e w4 ⟨⟨z2, rfl, h2⟩, hb4⟩
  have hk4 := kept_trans hk3 hb4
  have P4 := Lib.hid (P3.out.below hb4)
  have Q4 := Lib.hid (Q3.out.below hb4)
  have C4 := Lib.hid (C3.out.below hb4)
  have D4 := Lib.hid h2
  clear hb4 hk3 P3 Q3 C3 h2
  go_wp2_with fail
  refine (same_v C4.out D4.out (by omega) (by omega)).mono ?_
  rintro e w5 ⟨rfl, hb5⟩
  have hk5 := kept_trans hk4 hb5
  have P5 := Lib.hid (P4.out.below hb5)
  have Q5 := Lib.hid (Q4.out.below hb5)
  clear hb5 hk4 P4 Q4 C4 D4
  go_wp2_with fail
  refine (add_v P5.out Q5.out (by omega) (by omega)).mono ?_
  rintro e w6 ⟨⟨z1, rfl, h1⟩, hb6⟩
  have hk6 := kept_trans hk5 hb6
  have P6 := Lib.hid (P5.out.below hb6)
  have Q6 := Lib.hid (Q5.out.below hb6)
  have C6 := Lib.hid h1
  clear hb6 hk5 P5 Q5 h1
  go_wp2_with fail
  refine (radd_v P6.out Q6.out (by omega) (by omega)).mono ?_
  rintro e w7 ⟨⟨z2, rfl, h2⟩, hb7⟩
  have hk7 := kept_trans hk6 hb7
  have P7 := Lib.hid (P6.out.below hb7)
  have Q7 := Lib.hid (Q6.out.below hb7)
  have C7 := Lib.hid (C6.out.below hb7)
  have D7 := Lib.hid h2
  clear hb7 hk6 P6 Q6 C6 h2
  go_wp2_with fail
  refine (same_v C7.out D7.out (by omega) (by omega)).mono ?_
  rintro e w8 ⟨rfl, hb8⟩
  have hk8 := kept_trans hk7 hb8
  have P8 := Lib.hid (P7.out.below hb8)
  have Q8 := Lib.hid (Q7.out.below hb8)
  clear hb8 hk7 P7 Q7 C7 D7
  go_wp2_with fail
  refine (mul_v P8.out Q8.out (by omega) (by omega)).mono ?_
  rintro e w9 ⟨⟨z1, rfl, h1⟩, hb9⟩
  have hk9 := kept_trans hk8 hb9
  have P9 := Lib.hid (P8.out.below hb9)
  have Q9 := Lib.hid (Q8.out.below hb9)
  have C9 := Lib.hid h1
  clear hb9 hk8 P8 Q8 h1
  go_wp2_with fail
  refine (rmul_v P9.out Q9.out (by omega) (by omega)).mono ?_
  rintro e w10 ⟨⟨z2, rfl, h2⟩, hb10⟩
  have hk10 := kept_trans hk9 hb10
  have P10 := Lib.hid (P9.out.below hb10)
  have Q10 := Lib.hid (Q9.out.below hb10)
  have C10 := Lib.hid (C9.out.below hb10)
  have D10 := Lib.hid h2
  clear hb10 hk9 P9 Q9 C9 h2
  go_wp2_with fail
  refine (same_v C10.out D10.out (by omega) (by omega)).mono ?_
  rintro e w11 ⟨rfl, hb11⟩
  have hk11 := kept_trans hk10 hb11
  have P11 := Lib.hid (P10.out.below hb11)
  have Q11 := Lib.hid (Q10.out.below hb11)
  clear hb11 hk10 P10 Q10 C10 D10
  go_wp2_with fail
  refine (eval_v P11.out (by omega) x hx).mono ?_
  rintro e w12 ⟨rfl, hb12⟩
  have hk12 := kept_trans hk11 hb12
  have P12 := Lib.hid (P11.out.below hb12)
  have Q12 := Lib.hid (Q11.out.below hb12)
  clear hb12 hk11 P11 Q11
  go_wp2_with fail
  refine (reval_v P12.out (by omega) x).mono ?_
  rintro e w13 ⟨rfl, hb13⟩
  have hk13 := kept_trans hk12 hb13
  clear hb13 hk12 P12 Q12
  go_wp2_with fail
  refine (lives_any w13).mono ?_
  rintro e w14 ⟨rfl, hb14⟩
  have hk14 := kept_trans hk13 hb14
  clear hb14 hk13
  go_wp2
  go_ret
  exact ⟨rfl, hk14⟩

end Go.Proofs.Ytalljoneflepiaa
