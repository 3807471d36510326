/-
  An operation's element, the program's and the statements': the plain answer; what was there was left as it was.
-/
import Derived.Test.YtcbcmnbfflaicaaSkn
namespace Go.Proofs.Ytcbcmnbfflaicaa
open Go.RowKit

/-- A number, as the 64 bits that it is. -/
def u64of (z : Int) : Nat := (z % 18446744073709551616).toNat
theorem u64of_lt (z : Int) : u64of z < 18446744073709551616 := by unfold u64of; omega
theorem u64of_wrap (z : Int) : IntKind.u64.wrap z = (u64of z : Int) := by rw [IntKind.wrap_u64]; unfold u64of; omega
def elemS : List UInt8 := [101, 108, 101, 109]
/-- An operation's element. -/
def elm (by_ seq : Int) (sum : Nat) : Nat := 1 + Hsh.of elemS [u64of by_, u64of seq, sum] % 1152921504606846976
theorem elm_el (by_ seq : Int) (sum : Nat) : 1 ≤ elm by_ seq sum ∧ elm by_ seq sum ≤ 1152921504606846976 := by unfold elm; omega

set_option maxRecDepth 100000 in
set_option maxHeartbeats 2000000 in
theorem elem_any (by_ seq : Int) (sum : Nat) (w : World) (hs : sum < 18446744073709551616) :
    Calls Try.prog 14 #[.agg #[.int .i64 by_, .int .i64 seq, .int .u64 (sum : Int)]] w fun e w' => e = .returned (.int .u64 ((elm by_ seq sum : Nat) : Int)) ∧ Below w.heap.size w w' := by
  obtain ⟨b, hb⟩ : ∃ b, b = u64of by_ := ⟨_, rfl⟩
  obtain ⟨s, hsq⟩ : ∃ s, s = u64of seq := ⟨_, rfl⟩
  have w1 : IntKind.u64.wrap by_ = (b : Int) := by rw [hb, u64of_wrap]
  have w2 : IntKind.u64.wrap seq = (s : Int) := by rw [hsq, u64of_wrap]
  have bl : b < 18446744073709551616 := by rw [hb]; exact u64of_lt _
  have sl : s < 18446744073709551616 := by rw [hsq]; exact u64of_lt _
  have hk1 := blk_new w 24 #[.int .i64 by_, .int .i64 seq, .int .u64 (sum : Int)]
  have c0 : (w.alloc (.cells #[.int .i64 by_, .int .i64 seq, .int .u64 (sum : Int)] 24)).cell? ⟨w.heap.size, 0, none⟩ = some (.int .i64 by_) := hk1.cell 0
  have c1 : (w.alloc (.cells #[.int .i64 by_, .int .i64 seq, .int .u64 (sum : Int)] 24)).cell? ⟨w.heap.size, 1, none⟩ = some (.int .i64 seq) := hk1.cell 1
  have c2 : (w.alloc (.cells #[.int .i64 by_, .int .i64 seq, .int .u64 (sum : Int)] 24)).cell? ⟨w.heap.size, 2, none⟩ = some (.int .u64 (sum : Int)) := hk1.cell 2
  have hrd := rd_news (w.alloc (.cells #[.int .i64 by_, .int .i64 seq, .int .u64 (sum : Int)] 24)) [b, s, sum]
  have hof := of_any ⟨#[101, 108, 101, 109]⟩ (some ⟨(w.alloc (.cells #[.int .i64 by_, .int .i64 seq, .int .u64 (sum : Int)] 24)).heap.size, 0, none⟩) 3 3 [b, s, sum] _ (by decide) rfl (by omega) (by intro x hx; simp at hx; rcases hx with rfl | rfl | rfl <;> assumption) hrd
  rw [World.size_alloc] at hof
  have hb0 : Below w.heap.size w ((w.alloc (.cells #[.int .i64 by_, .int .i64 seq, .int .u64 (sum : Int)] 24)).alloc (.cells (u64s [b, s, sum]).toArray 22)) := ((Below.refl _ w).alloc (Nat.le_refl _) _).alloc (by simp) _
  have hol := Hsh.of_lt elemS [b, s, sum]
  have he : elm by_ seq sum = 1 + Hsh.of elemS [b, s, sum] % 1152921504606846976 := by unfold elm; rw [← hb, ← hsq]
  obtain ⟨o, ho⟩ : ∃ o, o = Hsh.of elemS [b, s, sum] := ⟨_, rfl⟩
  have hof2 : Calls Try.prog 29 #[.string ⟨#[101, 108, 101, 109]⟩, .slice (some ⟨w.heap.size + 1, 0, none⟩) 3 3] ((w.alloc (.cells #[.int .i64 by_, .int .i64 seq, .int .u64 (sum : Int)] 24)).alloc (.cells #[.int .u64 (b : Int), .int .u64 (s : Int), .int .u64 (sum : Int)] 22)) fun e w' => e = .returned (.int .u64 (o : Int)) ∧ Below w.heap.size w w' := by
    refine hof.mono ?_
    rintro e w' ⟨rfl, hb'⟩
    exact ⟨by rw [ho]; rfl, hb0.trans (hb'.mono hb0.size)⟩
  rw [he, ← ho]
  rw [← ho] at hol
  obtain ⟨r, hr⟩ : ∃ r, r = o % 1152921504606846976 := ⟨_, rfl⟩
  rw [← hr]
  have r1 : (o : Int) % 1152921504606846976 = (r : Int) := by omega
  have r2 : (o : Int).tmod 1152921504606846976 = (r : Int) := by rw [Int.tmod_eq_emod_of_nonneg (by omega)]; omega
  have rl : r < 1152921504606846976 := by omega
  have HOF := Lib.hid hof2
  have HR := Lib.hid hr
  clear hb hsq hk1 hrd hof hof2 hb0 he ho hr hol
  go_enter Try.func14, Try.ntmps14
  go_wp2_with fail
  refine HOF.out.mono ?_
  rintro e w3 ⟨rfl, hb3⟩
  go_wp2
  go_ret
  exact ⟨by first | rfl | (congr 2; omega), hb3⟩

set_option maxRecDepth 100000 in
set_option maxHeartbeats 2000000 in
theorem relem_any (by_ seq : Int) (sum : Nat) (w : World) :
    Calls Try.prog 17 #[.agg #[.int .i64 by_, .int .i64 seq, .int .u64 (sum : Int)]] w fun e w' => e = .returned (.int .u64 ((elm by_ seq sum : Nat) : Int)) ∧ Below w.heap.size w w' := by
  obtain ⟨b, hb⟩ : ∃ b, b = u64of by_ := ⟨_, rfl⟩
  obtain ⟨s, hsq⟩ : ∃ s, s = u64of seq := ⟨_, rfl⟩
  have w1 : IntKind.u64.wrap by_ = (b : Int) := by rw [hb, u64of_wrap]
  have w2 : IntKind.u64.wrap seq = (s : Int) := by rw [hsq, u64of_wrap]
  have bl : b < 18446744073709551616 := by rw [hb]; exact u64of_lt _
  have sl : s < 18446744073709551616 := by rw [hsq]; exact u64of_lt _
  have hk1 := blk_new w 24 #[.int .i64 by_, .int .i64 seq, .int .u64 (sum : Int)]
  have c0 : (w.alloc (.cells #[.int .i64 by_, .int .i64 seq, .int .u64 (sum : Int)] 24)).cell? ⟨w.heap.size, 0, none⟩ = some (.int .i64 by_) := hk1.cell 0
  have c1 : (w.alloc (.cells #[.int .i64 by_, .int .i64 seq, .int .u64 (sum : Int)] 24)).cell? ⟨w.heap.size, 1, none⟩ = some (.int .i64 seq) := hk1.cell 1
  have c2 : (w.alloc (.cells #[.int .i64 by_, .int .i64 seq, .int .u64 (sum : Int)] 24)).cell? ⟨w.heap.size, 2, none⟩ = some (.int .u64 (sum : Int)) := hk1.cell 2
  have hrd := rd_news (w.alloc (.cells #[.int .i64 by_, .int .i64 seq, .int .u64 (sum : Int)] 24)) [b, s, sum]
  have hof := rof_any ⟨#[101, 108, 101, 109]⟩ [b, s, sum] (some ⟨(w.alloc (.cells #[.int .i64 by_, .int .i64 seq, .int .u64 (sum : Int)] 24)).heap.size, 0, none⟩) 3 3 _ (by decide) rfl (by omega) hrd
  rw [World.size_alloc] at hof
  have hb0 : Below w.heap.size w ((w.alloc (.cells #[.int .i64 by_, .int .i64 seq, .int .u64 (sum : Int)] 24)).alloc (.cells (u64s [b, s, sum]).toArray 22)) := ((Below.refl _ w).alloc (Nat.le_refl _) _).alloc (by simp) _
  have hol := Hsh.of_lt elemS [b, s, sum]
  have he : elm by_ seq sum = 1 + Hsh.of elemS [b, s, sum] % 1152921504606846976 := by unfold elm; rw [← hb, ← hsq]
  obtain ⟨o, ho⟩ : ∃ o, o = Hsh.of elemS [b, s, sum] := ⟨_, rfl⟩
  have hof2 : Calls Try.prog 32 #[.string ⟨#[101, 108, 101, 109]⟩, .slice (some ⟨w.heap.size + 1, 0, none⟩) 3 3] ((w.alloc (.cells #[.int .i64 by_, .int .i64 seq, .int .u64 (sum : Int)] 24)).alloc (.cells #[.int .u64 (b : Int), .int .u64 (s : Int), .int .u64 (sum : Int)] 22)) fun e w' => e = .returned (.int .u64 (o : Int)) ∧ Below w.heap.size w w' := by
    refine hof.mono ?_
    rintro e w' ⟨rfl, hb'⟩
    exact ⟨by rw [ho]; rfl, hb0.trans (hb'.mono hb0.size)⟩
  rw [he, ← ho]
  rw [← ho] at hol
  obtain ⟨r, hr⟩ : ∃ r, r = o % 1152921504606846976 := ⟨_, rfl⟩
  rw [← hr]
  have r1 : (o : Int) % 1152921504606846976 = (r : Int) := by omega
  have r2 : (o : Int).tmod 1152921504606846976 = (r : Int) := by rw [Int.tmod_eq_emod_of_nonneg (by omega)]; omega
  have rl : r < 1152921504606846976 := by omega
  have HOF := Lib.hid hof2
  have HR := Lib.hid hr
  clear hb hsq hk1 hrd hof hof2 hb0 he ho hr hol
  go_enter Try.func17, Try.ntmps17
  go_wp2_with fail
  refine HOF.out.mono ?_
  rintro e w3 ⟨rfl, hb3⟩
  go_wp2
  go_ret
  exact ⟨by first | rfl | (congr 2; omega), hb3⟩

end Go.Proofs.Ytcbcmnbfflaicaa
