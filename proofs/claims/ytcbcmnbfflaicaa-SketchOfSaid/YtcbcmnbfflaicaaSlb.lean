/-
  SketchOf, walked: an operation's element, and a set's sketch, are the document's.
-/
import Derived.Test.YtcbcmnbfflaicaaSkv
import Derived.Deep.RegionHeld3
namespace Go.Proofs.Ytcbcmnbfflaicaa
open Go.RowKit
open Sk (pt Fit)

/-- An operation's name in a variable. -/
def Bi (w : World) (b : Nat) (p q : Int) (s : Nat) : Prop := Blk w b 24 #[.int .i64 p, .int .i64 q, .int .u64 (s : Int)]
theorem Bi.below {w w' : World} {b s : Nat} {p q : Int} (h : Bi w b p q s) (hb : Below w.heap.size w w') : Bi w' b p q s := (hb.block b (Blk.lt h)).trans h
theorem Bi.new (w : World) (p q : Int) (s : Nat) : Bi (w.alloc (.cells #[.int .i64 p, .int .i64 q, .int .u64 (s : Int)] 24)) w.heap.size p q s := blk_new w _ _
theorem Bi.c0 {w : World} {b s : Nat} {p q : Int} (h : Bi w b p q s) : w.cell? ⟨b, 0, none⟩ = some (.int .i64 p) := Blk.cell h 0
theorem Bi.c1 {w : World} {b s : Nat} {p q : Int} (h : Bi w b p q s) : w.cell? ⟨b, 1, none⟩ = some (.int .i64 q) := Blk.cell h 1
theorem Bi.c2 {w : World} {b s : Nat} {p q : Int} (h : Bi w b p q s) : w.cell? ⟨b, 2, none⟩ = some (.int .u64 (s : Int)) := Blk.cell h 2

set_option maxRecDepth 100000 in
set_option maxHeartbeats 8000000 in
theorem of_walk (by_ seq : Int) (sum : Nat) (A : Option Addr) (n1 c1 : Nat) (l : List Nat) (z : Int) (w : World) (hs : sum < 18446744073709551616) (hA : In w A n1 c1 l) (hz1 : -9223372036854775808 ≤ z) (hz2 : z ≤ 9223372036854775807) :
    Calls Try.prog 3 #[.agg #[.int .i64 by_, .int .i64 seq, .int .u64 (sum : Int)], .slice A n1 c1, .int .i64 z] w fun e w' => e = .returned (.bool true) ∧ Below w.heap.size w w' := by
  have L0 := Lib.hid (hA)
  have KB0 := Lib.hid (Below.refl w.heap.size w)
  have HZ := Lib.hid (And.intro hz1 hz2)
  clear hA hz1 hz2
  obtain ⟨a, ha⟩ : ∃ a, a = setf l := ⟨_, rfl⟩
  have SA := Lib.hid (show St a by rw [ha]; exact st_set l)
  have LA := Lib.hid (show a.length ≤ 12 by rw [ha]; exact setf_len l)
  have HAE := Lib.hid ha
  clear ha
  obtain ⟨na, hna⟩ : ∃ na, na = a.length := ⟨_, rfl⟩
  have hna12 : na ≤ 12 := by have := LA.out; omega
  have HNA := Lib.hid hna
  clear hna
  have hel := elm_el by_ seq sum
  obtain ⟨el, hele⟩ : ∃ el, el = elm by_ seq sum := ⟨_, rfl⟩
  rw [← hele] at hel
  have d1 : decide ((1 : Int) ≤ (el : Int)) = true := decide_eq_true (by omega)
  have d2 : decide ((el : Int) ≤ 1152921504606846976) = true := decide_eq_true (by omega)
  have d3 : (1 : Int) ≤ (el : Int) := by omega
  have d4 : (el : Int) ≤ 1152921504606846976 := by omega
  have HEL := Lib.hid hele
  clear hele hel
  have hb1 := (Below.refl w.heap.size w).alloc (Nat.le_refl _) ((.cells #[.int .i64 by_, .int .i64 seq, .int .u64 (sum : Int)] 24))
  have L1 := Lib.hid (L0.out.below hb1)
  have KB1 := Lib.hid (KB0.out.trans (hb1.mono KB0.out.size))
  clear hb1
  have BI1 := Lib.hid (Bi.new w by_ seq sum)
  go_enter Try.func3, Try.ntmps3
  go_wp2_with fail
  refine (set_v L1.out).mono ?_
  rintro e w2 ⟨⟨z1, rfl, hs1⟩, hb2⟩
  have BI2 := Lib.hid (BI1.out.below hb2)
  have KB2 := Lib.hid (KB1.out.trans (hb2.mono KB1.out.size))
  clear hb2
  have S2 := Lib.hid hs1
  clear hs1
  rw [← HAE.out] at S2
  obtain ⟨As, ms, cs, rfl, hps, hls, hms⟩ := S2.out
  have hmsn : ms = na := by have := hps.1; have := HNA.out; omega
  subst hmsn
  clear hps hls hms
  go_wp2_with fail
  refine (around_v z 21 _ HZ.out.1 HZ.out.2 (by omega) (by omega)).mono ?_
  rintro e w3 ⟨⟨n, hn21, rfl⟩, hb3⟩
  have BI3 := Lib.hid (BI2.out.below hb3)
  have S3 := Lib.hid (S2.out.below hb3)
  have KB3 := Lib.hid (KB2.out.trans (hb3.mono KB2.out.size))
  clear hb3
  go_wp2_with fail
  refine (of_vn S3.out HNA.out (by omega) (by omega)).mono ?_
  rintro e w4 ⟨⟨A1, e1, rfl, hk1⟩, hb4⟩
  have BI4 := Lib.hid (BI3.out.below hb4)
  have S4 := Lib.hid (S3.out.below hb4)
  have KB4 := Lib.hid (KB3.out.trans (hb4.mono KB3.out.size))
  clear hb4
  have K4 := Lib.hid hk1
  clear hk1
  have hb5 := (Below.refl w4.heap.size w4).alloc (Nat.le_refl _) ((.cells #[.int .i64 (ms : Int), .slice A1 n e1] 29))
  have BI5 := Lib.hid (BI4.out.below hb5)
  have S5 := Lib.hid (S4.out.below hb5)
  have K5 := Lib.hid (K4.out.below hb5)
  have KB5 := Lib.hid (KB4.out.trans (hb5.mono KB4.out.size))
  clear hb5
  have BS5 := Lib.hid (Bs.new w4 ms A1 n e1)
  have i0 := BI5.out.c0
  have i1 := BI5.out.c1
  have i2 := BI5.out.c2
  go_wp2_with fail
  refine (elem_any by_ seq sum _ hs).mono ?_
  rintro e w6 ⟨rfl, hb6⟩
  have BI6 := Lib.hid (BI5.out.below hb6)
  have S6 := Lib.hid (S5.out.below hb6)
  have K6 := Lib.hid (K5.out.below hb6)
  have BS6 := Lib.hid (BS5.out.below hb6)
  have KB6 := Lib.hid (KB5.out.trans (hb6.mono KB5.out.size))
  clear hb6
  rw [← HEL.out]
  clear i0 i1 i2
  have hva := values_v (w := w6.drew) (n := n) (S6.out.below (below_to_drew (Below.refl _ _))) (by omega) (by omega)
  have HVA := Lib.hid hva
  have k0 : w6.drew.cell? ⟨w4.heap.size, 0, none⟩ = some (.int .i64 (ms : Int)) ∧ w6.drew.cell? ⟨w4.heap.size, 1, none⟩ = some (.slice A1 n e1) ∧ w6.drew.cell? ⟨w.heap.size, 0, none⟩ = some (.int .i64 by_) ∧ w6.drew.cell? ⟨w.heap.size, 1, none⟩ = some (.int .i64 seq) ∧ w6.drew.cell? ⟨w.heap.size, 2, none⟩ = some (.int .u64 (sum : Int)) := ⟨BS6.out.c0, BS6.out.c1, BI6.out.c0, BI6.out.c1, BI6.out.c2⟩
  clear hva
  go_wp2
  refine wp_region_held_drew (S := (fun w' : World => w'.cell? ⟨w4.heap.size, 0, none⟩ = some (.int .i64 (ms : Int)) ∧ w'.cell? ⟨w4.heap.size, 1, none⟩ = some (.slice A1 n e1) ∧ w'.cell? ⟨w.heap.size, 0, none⟩ = some (.int .i64 by_) ∧ w'.cell? ⟨w.heap.size, 1, none⟩ = some (.int .i64 seq) ∧ w'.cell? ⟨w.heap.size, 2, none⟩ = some (.int .u64 (sum : Int)))) (by kernel_rfl) k0 (fun hHeld => ?_)
  try simp only [Act.put, List.getElem_toArray, List.getElem_cons_succ, List.getElem_cons_zero, List.setIfInBounds_toArray, List.set_cons_zero, List.set_cons_succ]
  refine wpAnyH_take (i := 0) (v := ?_) rfl (by kernel_rfl) (by kernel_rfl) (by kernel_rfl) (fun _ _ _ h => h) (Or.inl ⟨by rfl, ?_⟩) (by assumption) ?_
  rotate_left
  · (intro w hSw; (try dsimp only at hSw); obtain ⟨s0, s1, s2, s3, s4⟩ := hSw; go_simp; try (with_reducible rfl))
  try simp only [Act.put, List.getElem_toArray, List.getElem_cons_zero, List.setIfInBounds_toArray, List.set_cons_zero, List.set_cons_succ]
  refine wpAnyH_take (i := 1) (v := ?_) rfl (by kernel_rfl) (by kernel_rfl) (by kernel_rfl) (fun _ _ _ h => h) (Or.inl ⟨by rfl, ?_⟩) (by assumption) ?_
  rotate_left
  · (intro w hSw; (try dsimp only at hSw); obtain ⟨s0, s1, s2, s3, s4⟩ := hSw; go_simp; try (with_reducible rfl))
  try simp only [Act.put, List.getElem_toArray, List.getElem_cons_succ, List.getElem_cons_zero, List.setIfInBounds_toArray, List.set_cons_zero, List.set_cons_succ]
  refine wpAnyH_take (i := 2) (v := ?_) rfl (by kernel_rfl) (by kernel_rfl) (by kernel_rfl) (fun _ _ _ h => h) (Or.inl ⟨by rfl, ?_⟩) (by assumption) ?_
  rotate_left
  · (intro w hSw; (try dsimp only at hSw); obtain ⟨s0, s1, s2, s3, s4⟩ := hSw; go_simp; try (with_reducible rfl))
  try simp only [Act.put, List.getElem_toArray, List.getElem_cons_succ, List.getElem_cons_zero, List.setIfInBounds_toArray, List.set_cons_zero, List.set_cons_succ]
  refine wpAnyH_take (i := 3) (v := ?_) rfl (by kernel_rfl) (by kernel_rfl) (by kernel_rfl) (fun _ _ _ h => h) (Or.inl ⟨by rfl, ?_⟩) (by assumption) ?_
  rotate_left
  · (intro w hSw; (try dsimp only at hSw); obtain ⟨s0, s1, s2, s3, s4⟩ := hSw; go_simp; try (with_reducible rfl))
  try simp only [Act.put, List.getElem_toArray, List.getElem_cons_succ, List.getElem_cons_zero, List.setIfInBounds_toArray, List.set_cons_zero, List.set_cons_succ]
  refine wpAnyH_take (i := 4) (v := ?_) rfl (by kernel_rfl) (by kernel_rfl) (by kernel_rfl) (fun _ _ _ h => h) (Or.inl ⟨by rfl, ?_⟩) (by assumption) ?_
  rotate_left
  · (intro w hSw; (try dsimp only at hSw); obtain ⟨s0, s1, s2, s3, s4⟩ := hSw; go_simp; try (with_reducible rfl))
  try simp only [Act.put, List.getElem_toArray, List.getElem_cons_succ, List.getElem_cons_zero, List.setIfInBounds_toArray, List.set_cons_zero, List.set_cons_succ]
  refine wpAnyH_take (i := 5) (v := ?_) rfl (by kernel_rfl) (by kernel_rfl) (by kernel_rfl) (fun _ _ _ h => h) (Or.inl ⟨by rfl, ?_⟩) (by assumption) ?_
  rotate_left
  · (intro w hSw; (try dsimp only at hSw); obtain ⟨s0, s1, s2, s3, s4⟩ := hSw; go_simp; try (with_reducible rfl))
  try simp only [Act.put, List.getElem_toArray, List.getElem_cons_succ, List.getElem_cons_zero, List.setIfInBounds_toArray, List.set_cons_zero, List.set_cons_succ]
  refine wpAnyH_take (i := 6) (v := ?_) rfl (by kernel_rfl) (by kernel_rfl) (by kernel_rfl) (fun _ _ _ h => h) (Or.inl ⟨by rfl, ?_⟩) (by assumption) ?_
  rotate_left
  · (intro w hSw; (try dsimp only at hSw); obtain ⟨s0, s1, s2, s3, s4⟩ := hSw; go_simp; try (with_reducible rfl))
  try simp only [Act.put, List.getElem_toArray, List.getElem_cons_succ, List.getElem_cons_zero, List.setIfInBounds_toArray, List.set_cons_zero, List.set_cons_succ]
  refine wpAnyH_take (i := 7) (v := ?_) rfl (by kernel_rfl) (by kernel_rfl) (by kernel_rfl) (fun _ _ _ h => h) (Or.inl ⟨by rfl, ?_⟩) (by assumption) ?_
  rotate_left
  · (intro w hSw; (try dsimp only at hSw); obtain ⟨s0, s1, s2, s3, s4⟩ := hSw; go_simp; try (with_reducible rfl))
  try simp only [Act.put, List.getElem_toArray, List.getElem_cons_succ, List.getElem_cons_zero, List.setIfInBounds_toArray, List.set_cons_zero, List.set_cons_succ]
  refine wpAnyH_take (i := 8) (v := ?_) rfl (by kernel_rfl) (by kernel_rfl) (by kernel_rfl) (fun _ _ _ h => h) (Or.inl ⟨by rfl, ?_⟩) (by assumption) ?_
  rotate_left
  · (intro w hSw; (try dsimp only at hSw); obtain ⟨s0, s1, s2, s3, s4⟩ := hSw; go_simp; try (with_reducible rfl))
  try simp only [Act.put, List.getElem_toArray, List.getElem_cons_succ, List.getElem_cons_zero, List.setIfInBounds_toArray, List.set_cons_zero, List.set_cons_succ]
  refine wpAnyH_take (i := 9) (v := ?_) rfl (by kernel_rfl) (by kernel_rfl) (by kernel_rfl) (fun _ _ _ h => h) (Or.inl ⟨by rfl, ?_⟩) (by assumption) ?_
  rotate_left
  · (intro w hSw; (try dsimp only at hSw); obtain ⟨s0, s1, s2, s3, s4⟩ := hSw; go_simp; try (with_reducible rfl))
  try simp only [Act.put, List.getElem_toArray, List.getElem_cons_succ, List.getElem_cons_zero, List.setIfInBounds_toArray, List.set_cons_zero, List.set_cons_succ]
  refine wpAnyH_ready (rs := [10]) (by kernel_rfl) (by simp) ?_
  refine AllReadyH.cons rfl (fun K hK => ?_) AllReadyH.nil
  go_simp
  refine (HVA.out).mono ?_
  rintro e w7 ⟨⟨V1, v1, rfl, hv1⟩, hb7'⟩
  have hb7 := below_of_drew hb7'
  clear hb7'
  have BI7 := Lib.hid (BI6.out.below hb7)
  have S7 := Lib.hid (S6.out.below hb7)
  have K7 := Lib.hid (K6.out.below hb7)
  have BS7 := Lib.hid (BS6.out.below hb7)
  have KB7 := Lib.hid (KB6.out.trans (hb7.mono KB6.out.size))
  clear hb7
  have V7 := Lib.hid hv1
  clear hv1
  try go_simp
  have k7 := And.intro BS7.out.c0 (And.intro BS7.out.c1 (And.intro BI7.out.c0 (And.intro BI7.out.c1 BI7.out.c2)))
  refine hK.out _ _ k7 (fun hHeld1 => ?_)
  clear hK K
  try simp only [Act.put, List.getElem_toArray, List.getElem_cons_succ, List.getElem_cons_zero, List.setIfInBounds_toArray, List.set_cons_zero, List.set_cons_succ]
  refine wpAnyH_ready (rs := [11]) (by kernel_rfl) (by simp) ?_
  refine AllReadyH.cons rfl (fun K hK => ?_) AllReadyH.nil
  go_simp
  refine (same_v K7.out.nv V7.out.nv (by omega) (by omega) rfl).mono ?_
  rintro e w8 ⟨rfl, hb8'⟩
  have hb8 := hb8'
  clear hb8'
  have BI8 := Lib.hid (BI7.out.below hb8)
  have S8 := Lib.hid (S7.out.below hb8)
  have K8 := Lib.hid (K7.out.below hb8)
  have BS8 := Lib.hid (BS7.out.below hb8)
  have V8 := Lib.hid (V7.out.below hb8)
  have KB8 := Lib.hid (KB7.out.trans (hb8.mono KB7.out.size))
  clear hb8
  try go_simp
  have k8 := And.intro BS8.out.c0 (And.intro BS8.out.c1 (And.intro BI8.out.c0 (And.intro BI8.out.c1 BI8.out.c2)))
  refine hK.out _ _ k8 (fun hHeld2 => ?_)
  clear hK K
  try simp only [Act.put, List.getElem_toArray, List.getElem_cons_succ, List.getElem_cons_zero, List.setIfInBounds_toArray, List.set_cons_zero, List.set_cons_succ]
  refine wpAnyH_take (i := 12) (v := ?_) rfl (by kernel_rfl) (by kernel_rfl) (by kernel_rfl) (fun _ _ _ h => h) (Or.inl ⟨by rfl, ?_⟩) (by assumption) ?_
  rotate_left
  · (intro w hSw; (try dsimp only at hSw); obtain ⟨s0, s1, s2, s3, s4⟩ := hSw; go_simp; try (with_reducible rfl))
  try simp only [Act.put, List.getElem_toArray, List.getElem_cons_succ, List.getElem_cons_zero, List.setIfInBounds_toArray, List.set_cons_zero, List.set_cons_succ]
  refine wpAnyH_take (i := 13) (v := ?_) rfl (by kernel_rfl) (by kernel_rfl) (by kernel_rfl) (fun _ _ _ h => h) (Or.inl ⟨by rfl, ?_⟩) (by assumption) ?_
  rotate_left
  · (intro w hSw; (try dsimp only at hSw); obtain ⟨s0, s1, s2, s3, s4⟩ := hSw; go_simp; try (with_reducible rfl))
  try simp only [Act.put, List.getElem_toArray, List.getElem_cons_succ, List.getElem_cons_zero, List.setIfInBounds_toArray, List.set_cons_zero, List.set_cons_succ]
  refine wpAnyH_take (i := 14) (v := ?_) rfl (by kernel_rfl) (by kernel_rfl) (by kernel_rfl) (fun _ _ _ h => h) (Or.inl ⟨by rfl, ?_⟩) (by assumption) ?_
  rotate_left
  · (intro w hSw; (try dsimp only at hSw); obtain ⟨s0, s1, s2, s3, s4⟩ := hSw; go_simp; try (with_reducible rfl))
  try simp only [Act.put, List.getElem_toArray, List.getElem_cons_succ, List.getElem_cons_zero, List.setIfInBounds_toArray, List.set_cons_zero, List.set_cons_succ]
  refine wpAnyH_take (i := 15) (v := ?_) rfl (by kernel_rfl) (by kernel_rfl) (by kernel_rfl) (fun _ _ _ h => h) (Or.inl ⟨by rfl, ?_⟩) (by assumption) ?_
  rotate_left
  · (intro w hSw; (try dsimp only at hSw); obtain ⟨s0, s1, s2, s3, s4⟩ := hSw; go_simp; try (with_reducible rfl))
  try simp only [Act.put, List.getElem_toArray, List.getElem_cons_succ, List.getElem_cons_zero, List.setIfInBounds_toArray, List.set_cons_zero, List.set_cons_succ]
  refine wpAnyH_ready (rs := [16]) (by kernel_rfl) (by simp) ?_
  refine AllReadyH.cons rfl (fun K hK => ?_) AllReadyH.nil
  go_simp
  refine (relem_any by_ seq sum _).mono ?_
  rintro e w9 ⟨rfl, hb9'⟩
  rw [← HEL.out]
  have hb9 := hb9'
  clear hb9'
  have BI9 := Lib.hid (BI8.out.below hb9)
  have S9 := Lib.hid (S8.out.below hb9)
  have K9 := Lib.hid (K8.out.below hb9)
  have BS9 := Lib.hid (BS8.out.below hb9)
  have V9 := Lib.hid (V8.out.below hb9)
  have KB9 := Lib.hid (KB8.out.trans (hb9.mono KB8.out.size))
  clear hb9
  try go_simp
  have k9 := And.intro BS9.out.c0 (And.intro BS9.out.c1 (And.intro BI9.out.c0 (And.intro BI9.out.c1 BI9.out.c2)))
  refine hK.out _ _ k9 (fun hHeld3 => ?_)
  clear hK K
  try simp only [Act.put, List.getElem_toArray, List.getElem_cons_succ, List.getElem_cons_zero, List.setIfInBounds_toArray, List.set_cons_zero, List.set_cons_succ]
  refine wpAnyH_take (i := 17) (v := ?_) rfl (by kernel_rfl) (by kernel_rfl) (by kernel_rfl) (fun _ _ _ h => h) (Or.inl ⟨by rfl, ?_⟩) (by assumption) ?_
  rotate_left
  · (intro w hSw; (try dsimp only at hSw); obtain ⟨s0, s1, s2, s3, s4⟩ := hSw; go_simp; try (with_reducible rfl))
  try simp only [Act.put, List.getElem_toArray, List.getElem_cons_succ, List.getElem_cons_zero, List.setIfInBounds_toArray, List.set_cons_zero, List.set_cons_succ]
  refine wpAnyH_take (i := 18) (v := ?_) rfl (by kernel_rfl) (by kernel_rfl) (by kernel_rfl) (fun _ _ _ h => h) (Or.inl ⟨by rfl, ?_⟩) (by assumption) ?_
  rotate_left
  · (intro w hSw; (try dsimp only at hSw); obtain ⟨s0, s1, s2, s3, s4⟩ := hSw; go_simp; try (with_reducible rfl))
  try simp only [Act.put, List.getElem_toArray, List.getElem_cons_succ, List.getElem_cons_zero, List.setIfInBounds_toArray, List.set_cons_zero, List.set_cons_succ]
  refine wpAnyH_take (i := 19) (v := ?_) rfl (by kernel_rfl) (by kernel_rfl) (by kernel_rfl) (fun _ _ _ h => h) (Or.inl ⟨by rfl, ?_⟩) (by assumption) ?_
  rotate_left
  · (intro w hSw; (try dsimp only at hSw); obtain ⟨s0, s1, s2, s3, s4⟩ := hSw; go_simp; try (with_reducible rfl))
  try simp only [Act.put, List.getElem_toArray, List.getElem_cons_succ, List.getElem_cons_zero, List.setIfInBounds_toArray, List.set_cons_zero, List.set_cons_succ]
  refine wpAnyH_take (i := 20) (v := ?_) rfl (by kernel_rfl) (by kernel_rfl) (by kernel_rfl) (fun _ _ _ h => h) (Or.inl ⟨by rfl, ?_⟩) (by assumption) ?_
  rotate_left
  · (intro w hSw; (try dsimp only at hSw); obtain ⟨s0, s1, s2, s3, s4⟩ := hSw; go_simp; try (with_reducible rfl))
  try simp only [Act.put, List.getElem_toArray, List.getElem_cons_succ, List.getElem_cons_zero, List.setIfInBounds_toArray, List.set_cons_zero, List.set_cons_succ]
  refine wpAnyH_take (i := 21) (v := ?_) rfl (by kernel_rfl) (by kernel_rfl) (by kernel_rfl) (fun _ _ _ h => h) (Or.inl ⟨by rfl, ?_⟩) (by assumption) ?_
  rotate_left
  · (intro w hSw; (try dsimp only at hSw); obtain ⟨s0, s1, s2, s3, s4⟩ := hSw; go_simp; try (with_reducible rfl))
  try simp only [Act.put, List.getElem_toArray, List.getElem_cons_succ, List.getElem_cons_zero, List.setIfInBounds_toArray, List.set_cons_zero, List.set_cons_succ]
  refine wpAnyH_take (i := 22) (v := ?_) rfl (by kernel_rfl) (by kernel_rfl) (by kernel_rfl) (fun _ _ _ h => h) (Or.inl ⟨by rfl, ?_⟩) (by assumption) ?_
  rotate_left
  · (intro w hSw; (try dsimp only at hSw); obtain ⟨s0, s1, s2, s3, s4⟩ := hSw; go_simp; try (with_reducible rfl))
  try simp only [Act.put, List.getElem_toArray, List.getElem_cons_succ, List.getElem_cons_zero, List.setIfInBounds_toArray, List.set_cons_zero, List.set_cons_succ]
  refine wpAnyH_take (i := 23) (v := ?_) rfl (by kernel_rfl) (by kernel_rfl) (by kernel_rfl) (fun _ _ _ h => h) (Or.inl ⟨by rfl, ?_⟩) (by assumption) ?_
  rotate_left
  · (intro w hSw; (try dsimp only at hSw); obtain ⟨s0, s1, s2, s3, s4⟩ := hSw; go_simp; try (with_reducible rfl))
  try simp only [Act.put, List.getElem_toArray, List.getElem_cons_succ, List.getElem_cons_zero, List.setIfInBounds_toArray, List.set_cons_zero, List.set_cons_succ]
  refine wpAnyH_take (i := 24) (v := ?_) rfl (by kernel_rfl) (by kernel_rfl) (by kernel_rfl) (fun _ _ _ h => h) (Or.inl ⟨by rfl, ?_⟩) (by assumption) ?_
  rotate_left
  · (intro w hSw; (try dsimp only at hSw); obtain ⟨s0, s1, s2, s3, s4⟩ := hSw; go_simp; try (with_reducible rfl))
  try simp only [Act.put, List.getElem_toArray, List.getElem_cons_succ, List.getElem_cons_zero, List.setIfInBounds_toArray, List.set_cons_zero, List.set_cons_succ]
  refine wpAnyH_take (i := 25) (v := ?_) rfl (by kernel_rfl) (by kernel_rfl) (by kernel_rfl) (fun _ _ _ h => h) (Or.inl ⟨by rfl, ?_⟩) (by assumption) ?_
  rotate_left
  · (intro w hSw; (try dsimp only at hSw); obtain ⟨s0, s1, s2, s3, s4⟩ := hSw; go_simp; try (with_reducible rfl))
  try simp only [Act.put, List.getElem_toArray, List.getElem_cons_succ, List.getElem_cons_zero, List.setIfInBounds_toArray, List.set_cons_zero, List.set_cons_succ]
  refine wpAnyH_take (i := 26) (v := ?_) rfl (by kernel_rfl) (by kernel_rfl) (by kernel_rfl) (fun _ _ _ h => h) (Or.inl ⟨by rfl, ?_⟩) (by assumption) ?_
  rotate_left
  · (intro w hSw; (try dsimp only at hSw); obtain ⟨s0, s1, s2, s3, s4⟩ := hSw; go_simp; try (with_reducible rfl))
  try simp only [Act.put, List.getElem_toArray, List.getElem_cons_succ, List.getElem_cons_zero, List.setIfInBounds_toArray, List.set_cons_zero, List.set_cons_succ]
  refine wpAnyH_take (i := 27) (v := ?_) rfl (by kernel_rfl) (by kernel_rfl) (by kernel_rfl) (fun _ _ _ h => h) (Or.inl ⟨by rfl, ?_⟩) (by assumption) ?_
  rotate_left
  · (intro w hSw; (try dsimp only at hSw); obtain ⟨s0, s1, s2, s3, s4⟩ := hSw; go_simp; try (with_reducible rfl))
  try simp only [Act.put, List.getElem_toArray, List.getElem_cons_succ, List.getElem_cons_zero, List.setIfInBounds_toArray, List.set_cons_zero, List.set_cons_succ]
  refine wpAnyH_ready (rs := [28]) (by kernel_rfl) (by simp) ?_
  refine AllReadyH.cons rfl (fun K hK => ?_) AllReadyH.nil
  go_simp
  refine (lives_any _).mono ?_
  rintro e w10 ⟨rfl, hb10'⟩
  have hb10 := hb10'
  clear hb10'
  have BI10 := Lib.hid (BI9.out.below hb10)
  have S10 := Lib.hid (S9.out.below hb10)
  have K10 := Lib.hid (K9.out.below hb10)
  have BS10 := Lib.hid (BS9.out.below hb10)
  have V10 := Lib.hid (V9.out.below hb10)
  have KB10 := Lib.hid (KB9.out.trans (hb10.mono KB9.out.size))
  clear hb10
  try go_simp
  have k10 := And.intro BS10.out.c0 (And.intro BS10.out.c1 (And.intro BI10.out.c0 (And.intro BI10.out.c1 BI10.out.c2)))
  refine hK.out _ _ k10 (fun hHeld4 => ?_)
  clear hK K
  try simp only [Act.put, List.getElem_toArray, List.getElem_cons_succ, List.getElem_cons_zero, List.setIfInBounds_toArray, List.set_cons_zero, List.set_cons_succ]
  refine wpAnyH_take (i := 29) (v := ?_) rfl (by kernel_rfl) (by kernel_rfl) (by kernel_rfl) (fun _ _ _ h => h) (Or.inl ⟨by rfl, ?_⟩) (by assumption) ?_
  rotate_left
  · (intro w hSw; (try dsimp only at hSw); obtain ⟨s0, s1, s2, s3, s4⟩ := hSw; go_simp; try (with_reducible rfl))
  try simp only [Act.put, List.getElem_toArray, List.getElem_cons_succ, List.getElem_cons_zero, List.setIfInBounds_toArray, List.set_cons_zero, List.set_cons_succ]
  refine wpAnyH_take (i := 30) (v := ?_) rfl (by kernel_rfl) (by kernel_rfl) (by kernel_rfl) (fun _ _ _ h => h) (Or.inl ⟨by rfl, ?_⟩) (by assumption) ?_
  rotate_left
  · (intro w hSw; (try dsimp only at hSw); obtain ⟨s0, s1, s2, s3, s4⟩ := hSw; go_simp; try (with_reducible rfl))
  try simp only [Act.put, List.getElem_toArray, List.getElem_cons_succ, List.getElem_cons_zero, List.setIfInBounds_toArray, List.set_cons_zero, List.set_cons_succ]
  refine wpAnyH_done (by kernel_rfl) ?_ _
  go_wp2
  go_ret
  exact ⟨rfl, KB10.out⟩

end Go.Proofs.Ytcbcmnbfflaicaa
