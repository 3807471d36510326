/-
  Package sketch's quotient: two polynomials without a common root, those of the lists that fit, if there are any. What was there is left as it was. For sketches of up to 1000 values, none of them 0.
-/
import Derived.Test.YtcbcmnbfflaicaaSkj
namespace Go.Proofs.Ytcbcmnbfflaicaa
open Go.RowKit
open Sk (pt eqn Fit Quo mon)

theorem Tv.wid {w : World} {o : Value} {s : Pl} {d k : Nat} (h : Tv w o s d) (hk : d ≤ k) : Tv w o s k := by
  obtain ⟨A, n, c, l, e, h1, h2, h3⟩ := h
  exact ⟨A, n, c, l, e, h1, h2, Nat.le_trans h3 hk⟩
/-- What quotient tells. -/
def Quot (a b : List Nat) (na nb : Nat) (w : World) (e : Ending) (w' : World) : Prop :=
  ((∃ z1 z2 f g m1 m2, e = .returned (.tuple #[z1, z2, .bool true]) ∧ Tv w' z1 f 1001 ∧ Tv w' z2 g 1001 ∧ Quo a b na nb f g m1 m2) ∨
    (e = .returned (.tuple #[.slice none 0 0, .slice none 0 0, .bool false]) ∧ ∀ p q, ¬ Fit a b na nb p q)) ∧ Below w.heap.size w w'

theorem mon_take {l : List Nat} {dF dG : Nat} (hl : l.length = dF + dG + 1) : Pl.co (l.take dF ++ [1]) = mon dF (Pl.co l) := Pl.ext fun i => by
  have h1 : (l.take dF).length = dF := by rw [List.length_take]; omega
  rw [Pl.co_snoc, h1, Pl.co_take]
  unfold mon
  by_cases c1 : i < dF
  · rw [if_neg (by omega), if_pos c1, if_pos c1]
  · rw [if_neg c1, if_neg c1]; rfl
theorem mon_drop {l : List Nat} {dF dG : Nat} (hl : l.length = dF + dG + 1) (h1 : Pl.co l (dF + dG) = 1) : Pl.co (l.drop dF) = mon dG (fun i => Pl.co l (dF + i)) := Pl.ext fun i => by
  rw [Pl.co_at, List.getElem?_drop]
  unfold mon
  by_cases c1 : i < dG
  · rw [if_pos c1]; rfl
  · rw [if_neg c1]
    by_cases c2 : i = dG
    · rw [if_pos c2, c2]; exact h1
    · rw [if_neg c2, List.getElem?_eq_none (by omega)]; rfl

set_option maxRecDepth 100000 in
set_option maxHeartbeats 4000000 in
theorem quotient_any (na nb n c c' : Nat) (A A' : Option Addr) (a b : List Nat) (w : World) (hA : Pt w A n c a) (hA' : Pt w A' n c' b) (ha : Pl.Sm a) (hb : Pl.Sm b) (hn : n ≤ 1000) (h1 : na ≤ 1000000) (h2 : nb ≤ 1000000) (hne : ∀ k, k < n → Pl.co a k ≠ 0) :
    Calls Try.prog 33 #[skv na A n c, skv nb A' n c'] w (Quot a b na nb w) := by
  have hal : a.length = n := hA.1.symm
  obtain ⟨w2, hw2⟩ : ∃ w2, w2 = ((w.alloc (.cells #[.int .i64 (na : Int), .slice A n c] 29)).alloc (.cells #[.int .i64 (nb : Int), .slice A' n c'] 29)) := ⟨_, rfl⟩
  have hk1 := (blk_new w 29 #[.int .i64 (na : Int), .slice A n c])
  have hk2 := (blk_new (w.alloc (.cells #[.int .i64 (na : Int), .slice A n c] 29)) 29 #[.int .i64 (nb : Int), .slice A' n c'])
  rw [World.size_alloc] at hk2
  have hk3 := blk_alloc hk1 (.cells #[.int .i64 (nb : Int), .slice A' n c'] 29)
  have hb0 : Below w.heap.size w ((w.alloc (.cells #[.int .i64 (na : Int), .slice A n c] 29)).alloc (.cells #[.int .i64 (nb : Int), .slice A' n c'] 29)) := ((Below.refl _ w).alloc (Nat.le_refl _) _).alloc (by simp) _
  have e0 : ((w.alloc (.cells #[.int .i64 (na : Int), .slice A n c] 29)).alloc (.cells #[.int .i64 (nb : Int), .slice A' n c'] 29)).cell? ⟨w.heap.size, 0, none⟩ = some (.int .i64 (na : Int)) := hk3.cell 0
  have e1 : ((w.alloc (.cells #[.int .i64 (na : Int), .slice A n c] 29)).alloc (.cells #[.int .i64 (nb : Int), .slice A' n c'] 29)).cell? ⟨w.heap.size, 1, none⟩ = some (.slice A n c) := hk3.cell 1
  have e2 : ((w.alloc (.cells #[.int .i64 (na : Int), .slice A n c] 29)).alloc (.cells #[.int .i64 (nb : Int), .slice A' n c'] 29)).cell? ⟨w.heap.size + 1, 0, none⟩ = some (.int .i64 (nb : Int)) := hk2.cell 0
  have e3 : ((w.alloc (.cells #[.int .i64 (na : Int), .slice A n c] 29)).alloc (.cells #[.int .i64 (nb : Int), .slice A' n c'] 29)).cell? ⟨w.heap.size + 1, 1, none⟩ = some (.slice A' n c') := hk2.cell 1
  rw [← hw2] at hb0
  by_cases hc : n + nb < na + 2 ∨ n + na < nb + 2
  · have hdg := degrees_no na nb n c n c' A A' w2 h1 h2 (by omega) hc
    have hno : ∀ p q, ¬ Fit a b na nb p q := fun p q h => by
      have := h.few
      have := h.more
      omega
    unfold skv at hdg ⊢
    have HDG := Lib.hid hdg
    have HW2 := Lib.hid hw2
    have HB0 := Lib.hid hb0
    have HNO := Lib.hid hno
    clear hk1 hk2 hk3 hb0 hdg hw2 hno hA hA' ha hb hne hc
    go_enter Try.func33, Try.ntmps33
    go_wp2_with fail
    rw [← HW2.out]
    refine HDG.out.mono ?_
    rintro e w3 ⟨rfl, hb3⟩
    go_wp2
    go_ret3
    exact ⟨.inr ⟨rfl, HNO.out⟩, HB0.out.trans (hb3.mono HB0.out.size)⟩
  · obtain ⟨dF, dG, hd, hd2, hd3⟩ : ∃ dF dG, dF + nb = dG + na ∧ dF + dG + 2 ≤ n ∧ n ≤ dF + dG + 3 := ⟨(n + na - nb - 2) / 2, (n + na - nb - 2) / 2 + nb - na, by omega, by omega, by omega⟩
    have hdg := degrees_yes na nb n c n c' dF dG A A' w2 h1 h2 (by omega) hd hd2 hd3
    have hsz2 : w2.heap.size = w.heap.size + 2 := by rw [hw2]; simp
    have hk2' : Blk w2 (w.heap.size + 1) 29 #[.int .i64 (nb : Int), .slice A' n c'] := by rw [hw2]; exact hk2
    have hk3' : Blk w2 w.heap.size 29 #[.int .i64 (na : Int), .slice A n c] := by rw [hw2]; exact hk3
    have hA2 := hA.below hb0
    have hA2' := hA'.below hb0
    have HDG := Lib.hid hdg
    have HW2 := Lib.hid hw2
    have HB0 := Lib.hid hb0
    have HD := Lib.hid hd
    have HD2 := Lib.hid hd2
    have HD3 := Lib.hid hd3
    have HC := Lib.hid hc
    have HSZ2 := Lib.hid hsz2
    have HK2 := Lib.hid hk2'
    have HK3 := Lib.hid hk3'
    have HA := Lib.hid hA2
    have HA' := Lib.hid hA2'
    have HSA := Lib.hid ha
    have HSB := Lib.hid hb
    have HNE := Lib.hid hne
    have HAL := Lib.hid hal
    have hdF : dF ≤ 1000 := by omega
    have hdG : dG ≤ 1000 := by omega
    obtain ⟨u, hu⟩ : ∃ u, u = dF + dG := ⟨_, rfl⟩
    have hui : (dF : Int) + (dG : Int) = (u : Int) := by omega
    have HU := Lib.hid hu
    unfold skv at HDG ⊢
    clear hk1 hk2 hk3 hb0 hdg hw2 hA hA' ha hb hne hc hd hd2 hd3 hsz2 hk2' hk3' hA2 hA2' hal hu h1 h2
    go_enter Try.func33, Try.ntmps33
    go_wp2_with fail
    rw [← HW2.out]
    refine HDG.out.mono ?_
    rintro e w3 ⟨rfl, hb3⟩
    have f0 : w3.cell? ⟨w.heap.size, 0, none⟩ = some (.int .i64 (na : Int)) := (HK3.out.below hb3 (by have := HSZ2.out; omega)).cell 0
    have f1 : w3.cell? ⟨w.heap.size, 1, none⟩ = some (.slice A n c) := (HK3.out.below hb3 (by have := HSZ2.out; omega)).cell 1
    have f2 : w3.cell? ⟨w.heap.size + 1, 0, none⟩ = some (.int .i64 (nb : Int)) := (HK2.out.below hb3 (by have := HSZ2.out; omega)).cell 0
    have f3 : w3.cell? ⟨w.heap.size + 1, 1, none⟩ = some (.slice A' n c') := (HK2.out.below hb3 (by have := HSZ2.out; omega)).cell 1
    have heq := equations_any na nb n c n c' dF dG A A' a b w3 (HA.out.below hb3) (HA'.out.below hb3) rfl HSA.out HSB.out hn hdF hdG
    unfold skv at heq
    have HEQ := Lib.hid heq
    have HB3 := Lib.hid (HB0.out.trans (hb3.mono HB0.out.size))
    clear heq hb3 e0 e1 e2 e3
    go_wp2_with fail
    refine HEQ.out.mono ?_
    rintro e w4 ⟨⟨R, gs, cs, Ds, rfl, hR1, hR2, hrows, hrow, hgs, hinj⟩, hb4⟩
    rw [← HU.out] at hrows hgs
    have hsv := solve_any R n n u gs cs Ds (fun k => eqn (a[k]?.getD 0) (b[k]?.getD 0) (pt k) dF dG) w4 w3.heap.size hb4.size (by omega) (by omega) hrows hrow (fun k _ => ⟨by rw [Sk.eqn_len, HU.out], Sk.eqn_sm (HSB.out.get k)⟩) ⟨hR1, hR2⟩ hgs hinj
    have HSV := Lib.hid hsv
    have HB4 := Lib.hid (HB3.out.trans (hb4.mono HB3.out.size))
    clear hsv hb4 hR1 hR2 hrows hrow hgs hinj
    go_wp2_with fail
    refine HSV.out.mono ?_
    rintro e w5 ⟨hsol, hb5⟩
    have hb5' : Below w.heap.size w w5 := by
      have h1 := HB4.out
      exact ⟨hb5.os.trans h1.os, hb5.tape.trans h1.tape, hb5.output.trans h1.output, Nat.le_trans h1.size hb5.size, fun k hk => (hb5.block k (by have := HB3.out.size; omega)).trans (h1.block k hk)⟩
    have HB5 := Lib.hid hb5'
    clear hb5 hb5'
    rcases hsol with ⟨g, l, rfl, hgl, har, hll, hls, hl1, hdot⟩ | ⟨rfl, hnov⟩
    · obtain ⟨U, hU⟩ : ∃ U, U = u + 1 := ⟨_, rfl⟩
      obtain ⟨G1, hG1⟩ : ∃ G1, G1 = dG + 1 := ⟨_, rfl⟩
      rw [← hU]
      have hu := HU.out
      have r1 := slice_head 25 (by kernel_rfl) (fun W => by kernel_rfl) (some ⟨g, 0, none⟩) U U dF (by omega)
      have r2 := slice_from g 0 U U dF G1 G1 (by omega) (by omega) (by omega) (by omega)
      rw [Nat.zero_add] at r2
      have hw6 : Below w5.heap.size w5 ((w5.drew.alloc (.cells #[.int .u64 1] 22)).alloc (.cells #[.slice (some ⟨g, 0, none⟩) dF U, .slice (some ⟨w5.heap.size, 0, none⟩) 1 1] 25)) := (((below_to_drew (Below.refl _ w5))).alloc (Nat.le_refl _) _).alloc (by show w5.heap.size ≤ (w5.drew.alloc _).heap.size; rw [World.size_alloc]; exact Nat.le_succ _) _
      have hl6 := har.below hw6 (by have h := har.lt; exact h)
      have hS6 := blk_new (w5.drew.alloc (.cells #[.int .u64 1] 22)) 25 #[.slice (some ⟨g, 0, none⟩) dF U, .slice (some ⟨w5.heap.size, 0, none⟩) 1 1]
      rw [World.size_alloc] at hS6
      have h16 : Pt ((w5.drew.alloc (.cells #[.int .u64 1] 22)).alloc (.cells #[.slice (some ⟨g, 0, none⟩) dF U, .slice (some ⟨w5.heap.size, 0, none⟩) 1 1] 25)) (some ⟨w5.heap.size, 0, none⟩) 1 1 [1] := Pt.new (w := w5.drew.alloc (.cells #[.int .u64 1] 22)) ⟨rfl, rd_news w5.drew [1], Nat.le_refl _, fun e => by cases e⟩ _
      have hp0 : Pt ((w5.drew.alloc (.cells #[.int .u64 1] 22)).alloc (.cells #[.slice (some ⟨g, 0, none⟩) dF U, .slice (some ⟨w5.heap.size, 0, none⟩) 1 1] 25)) (some ⟨g, 0, none⟩) dF U (l.take dF) :=
        ⟨by rw [List.length_take]; omega, (hl6.rd hl6.lt).take dF, by omega, fun e => by cases e⟩
      have hcc := concat2_any (w5.heap.size + 1) dF 1 U 1 _ _ _ _ _ hS6 hp0 h16 (by omega) (by omega) (by omega)
      have HCC := Lib.hid hcc
      have HW6 := Lib.hid hw6
      have HAR := Lib.hid har
      have HLL := Lib.hid hll
      have HLS := Lib.hid hls
      have HL1 := Lib.hid hl1
      have HDOT := Lib.hid hdot
      have HUU := Lib.hid hU
      have HGG := Lib.hid hG1
      clear hw6 hl6 hS6 h16 hp0 hcc har hll hls hl1 hdot hU hG1 hu hgl f0 f1 f2 f3
      go_wp2
      refine wp_region_held_drew (S := (fun w' : World => (Instr.slice 25 (.slice (some ⟨g, 0, none⟩) U U) none (some (.int .i64 (dF : Int))) none).run Try.prog w' = .ok (.slice (some ⟨g, 0, none⟩) dF U) w' ∧ (Instr.slice 25 (.slice (some ⟨g, 0, none⟩) U U) (some (.int .i64 (dF : Int))) none none).run Try.prog w' = .ok (.slice (some ⟨g, dF, none⟩) G1 G1) w')) (by kernel_rfl) ⟨r1 _, r2 _⟩ (fun hHeld => ?_)
      try simp only [Act.put, List.getElem_toArray, List.getElem_cons_succ, List.getElem_cons_zero, List.setIfInBounds_toArray, List.set_cons_zero, List.set_cons_succ]
      refine wpAnyH_take (i := 0) (v := ?_) rfl (by kernel_rfl) (by kernel_rfl) (by kernel_rfl) (fun _ _ _ h => h) (Or.inl ⟨by rfl, ?_⟩) (by assumption) ?_
      rotate_left
      · (intro w hSw; (try dsimp only at hSw); obtain ⟨s0, s1⟩ := hSw; go_simp; try (with_reducible rfl))
      try simp only [Act.put, List.getElem_toArray, List.getElem_cons_zero, List.setIfInBounds_toArray, List.set_cons_zero, List.set_cons_succ]
      refine wpAnyH_take (i := 1) (v := ?_) rfl (by kernel_rfl) (by kernel_rfl) (by kernel_rfl) (fun _ _ _ h => h) (Or.inl ⟨by rfl, ?_⟩) (by assumption) ?_
      rotate_left
      · (intro w hSw; (try dsimp only at hSw); obtain ⟨s0, s1⟩ := hSw; go_simp; try (with_reducible rfl))
      try simp only [Act.put, List.getElem_toArray, List.getElem_cons_succ, List.getElem_cons_zero, List.setIfInBounds_toArray, List.set_cons_zero, List.set_cons_succ]
      refine wpAnyH_take (i := 2) (v := ?_) rfl (by kernel_rfl) (by kernel_rfl) (by kernel_rfl) (fun _ _ _ h => h) (Or.inl ⟨by rfl, ?_⟩) (by assumption) ?_
      rotate_left
      · (intro w hSw; (try dsimp only at hSw); obtain ⟨s0, s1⟩ := hSw; go_simp; try (with_reducible rfl))
      try simp only [Act.put, List.getElem_toArray, List.getElem_cons_succ, List.getElem_cons_zero, List.setIfInBounds_toArray, List.set_cons_zero, List.set_cons_succ]
      refine wpAnyH_take (i := 6) (v := ?_) rfl (by kernel_rfl) (by kernel_rfl) (by kernel_rfl) (fun _ _ _ h => h) (Or.inl ⟨by rfl, ?_⟩) (by assumption) ?_
      rotate_left
      · (intro w hSw; (try dsimp only at hSw); obtain ⟨s0, s1⟩ := hSw; go_simp; try (with_reducible rfl))
      try simp only [Act.put, List.getElem_toArray, List.getElem_cons_succ, List.getElem_cons_zero, List.setIfInBounds_toArray, List.set_cons_zero, List.set_cons_succ]
      refine wpAnyH_take (i := 7) (v := ?_) rfl (by kernel_rfl) (by kernel_rfl) (by kernel_rfl) (fun _ _ _ h => h) (Or.inl ⟨by rfl, ?_⟩) (by assumption) ?_
      rotate_left
      · (intro w hSw; (try dsimp only at hSw); obtain ⟨s0, s1⟩ := hSw; go_simp; try (with_reducible rfl))
      try simp only [Act.put, List.getElem_toArray, List.getElem_cons_succ, List.getElem_cons_zero, List.setIfInBounds_toArray, List.set_cons_zero, List.set_cons_succ]
      refine wpAnyH_take (i := 8) (v := ?_) rfl (by kernel_rfl) (by kernel_rfl) (by kernel_rfl) (fun _ _ _ h => h) (Or.inl ⟨by rfl, ?_⟩) (by assumption) ?_
      rotate_left
      · (intro w hSw; (try dsimp only at hSw); obtain ⟨s0, s1⟩ := hSw; go_simp; try (with_reducible rfl))
      try simp only [Act.put, List.getElem_toArray, List.getElem_cons_succ, List.getElem_cons_zero, List.setIfInBounds_toArray, List.set_cons_zero, List.set_cons_succ]
      refine wpAnyH_ready (rs := [3]) (by kernel_rfl) (by simp) ?_
      refine AllReadyH.cons rfl (fun K hK => ?_) AllReadyH.nil
      go_simp
      refine hK.out _ _ ⟨r1 _, r2 _⟩ (fun hHeld1 => ?_)
      clear hK K
      try simp only [Act.put, List.getElem_toArray, List.getElem_cons_succ, List.getElem_cons_zero, List.setIfInBounds_toArray, List.set_cons_zero, List.set_cons_succ]
      refine wpAnyH_ready (rs := [4]) (by kernel_rfl) (by simp) ?_
      refine AllReadyH.cons rfl (fun K hK => ?_) AllReadyH.nil
      go_simp
      refine hK.out _ _ ⟨r1 _, r2 _⟩ (fun hHeld2 => ?_)
      clear hK K
      try simp only [Act.put, List.getElem_toArray, List.getElem_cons_succ, List.getElem_cons_zero, List.setIfInBounds_toArray, List.set_cons_zero, List.set_cons_succ]
      refine wpAnyH_ready (rs := [5]) (by kernel_rfl) (by simp) ?_
      refine AllReadyH.cons rfl (fun K hK => ?_) AllReadyH.nil
      go_simp
      refine HCC.out.mono ?_
      rintro e w6 ⟨⟨z, rfl, hz⟩, hb6⟩
      have HZ := Lib.hid hz
      have HB6 := Lib.hid hb6
      clear hz hb6
      try go_simp
      refine hK.out _ _ ⟨r1 _, r2 _⟩ (fun hHeld3 => ?_)
      clear hK K
      try simp only [Act.put, List.getElem_toArray, List.getElem_cons_succ, List.getElem_cons_zero, List.setIfInBounds_toArray, List.set_cons_zero, List.set_cons_succ]
      refine wpAnyH_take (i := 9) (v := ?_) rfl (by kernel_rfl) (by kernel_rfl) (by kernel_rfl) (fun _ _ _ h => h) (Or.inl ⟨by rfl, ?_⟩) (by assumption) ?_
      rotate_left
      · (intro w hSw; (try dsimp only at hSw); obtain ⟨s0, s1⟩ := hSw; go_simp; try (with_reducible rfl))
      try simp only [Act.put, List.getElem_toArray, List.getElem_cons_succ, List.getElem_cons_zero, List.setIfInBounds_toArray, List.set_cons_zero, List.set_cons_succ]
      refine wpAnyH_take (i := 10) (v := ?_) rfl (by kernel_rfl) (by kernel_rfl) (by kernel_rfl) (fun _ _ _ h => h) (Or.inl ⟨by rfl, ?_⟩) (by assumption) ?_
      rotate_left
      · (intro w hSw; (try dsimp only at hSw); obtain ⟨s0, s1⟩ := hSw; go_simp; try (with_reducible rfl))
      try simp only [Act.put, List.getElem_toArray, List.getElem_cons_succ, List.getElem_cons_zero, List.setIfInBounds_toArray, List.set_cons_zero, List.set_cons_succ]
      refine wpAnyH_done (by kernel_rfl) ?_ _
      clear hHeld hHeld1 hHeld2 hHeld3
      have hb6 : Below w5.heap.size w5 w6 := HW6.out.trans (HB6.out.mono HW6.out.size)
      have hal := HAL.out
      have hu := HU.out
      have hll : l.length = dF + dG + 1 := by have := HLL.out; omega
      have hl1 : Pl.co l (dF + dG) = 1 := by have := HL1.out; rw [hu] at this; exact this
      have hqz : Qv w6 z (mon dF (Pl.co l)) (dF + 1) := by
        obtain ⟨Az, cz, rfl, hpz, -⟩ := HZ.out.pt
        have hlz : (l.take dF ++ [1]).length = dF + 1 := by rw [List.length_append, List.length_take]; simp; omega
        refine ⟨Az, _, cz, l.take dF ++ [1], rfl, hpz, fun y hy => ?_, by omega, mon_take hll⟩
        rcases List.mem_append.1 hy with h | h
        · exact (HLS.out.take dF).big y h
        · rw [List.mem_singleton] at h; omega
      have hqg : Qv w6 (.slice (some ⟨g, dF, none⟩) G1 G1) (mon dG (fun i => Pl.co l (dF + i))) (dG + 1) := by
        have hG1 := HGG.out
        have h6 := HAR.out.below hb6 (by have h := HAR.out.lt; exact h)
        refine ⟨_, _, _, l.drop dF, rfl, ⟨by rw [List.length_drop]; omega, fun hp => ⟨g, dF, rfl, h6.lt, fun i u hu => ?_⟩, Nat.le_refl _, fun e => by cases e⟩, fun y hy => HLS.out.big y (List.mem_of_mem_drop hy), by omega, mon_drop hll hl1⟩
        have hi : i < (l.drop dF).length := by
          have := (List.getElem?_eq_some_iff.1 hu).1
          rwa [u64s_len] at this
        rw [List.length_drop] at hi
        rw [h6.cell (i := dF + i) (by omega), ← hu, u64s_at (by rw [List.length_drop]; exact hi), List.getElem?_drop]
      have hFd := Sk.mon_dg dF (Pl.co l)
      have hGd := Sk.mon_dg dG (fun i => Pl.co l (dF + i))
      have hvals : ∀ k, k < a.length → Pl.co b k * Pl.val (mon dF (Pl.co l)) (Fld.to (pt k)) = Pl.co a k * Pl.val (mon dG (fun i => Pl.co l (dF + i))) (Fld.to (pt k)) := fun k hk => by
        have h := HDOT.out k (by omega)
        rw [hu, Sk.dot_eqn _ _ _ _ _ _ hl1] at h
        have h3 : ∀ x y : Fld.F, x - y = 0 → x = y := fun x y h => by grind
        exact h3 _ _ h
      have HQZ := Lib.hid hqz
      have HQG := Lib.hid hqg
      have HFD := Lib.hid hFd
      have HGD := Lib.hid hGd
      have HVAL := Lib.hid hvals
      have hgcd := gcd1_v hqz hqg (by omega) (by omega) (.inl hFd.1.ne)
      have HGCD := Lib.hid hgcd
      have HB6' := Lib.hid (HB5.out.trans (hb6.mono HB5.out.size))
      clear hgcd hqz hqg hFd hGd hvals hb6 hal hll hl1 hu
      go_wp2_with fail
      refine HGCD.out.mono ?_
      rintro e w7 ⟨⟨bc, oc, nc, jc, cc, gc, rfl, -, -, htc, -, hgc, hgc0⟩, hb7⟩
      have hdv1 := divs_v (HQZ.out.below hb7) htc.q (by omega) (by omega) hgc0 hgc.left
      have HDV1 := Lib.hid hdv1
      have HTC := Lib.hid htc
      have HGC := Lib.hid hgc
      have HGC0 := Lib.hid hgc0
      have HB7 := Lib.hid hb7
      have HB7' := Lib.hid (HB6'.out.trans (hb7.mono HB6'.out.size))
      clear hdv1 htc hgc hgc0 hb7
      go_wp2_with fail
      refine HDV1.out.mono ?_
      rintro e w8 ⟨⟨z1, A8, c8, f1, rfl, ht1, hf1⟩, hb8⟩
      have hdv2 := divs_v ((HQG.out.below HB7.out).below hb8) (HTC.out.below hb8).q (by omega) (by omega) HGC0.out HGC.out.right
      have HDV2 := Lib.hid hdv2
      have HT1 := Lib.hid ht1
      have HF1 := Lib.hid hf1
      have HB8' := Lib.hid (HB7'.out.trans (hb8.mono HB7'.out.size))
      clear hdv2 ht1 hf1 hb8
      go_wp2_with fail
      refine HDV2.out.mono ?_
      rintro e w9 ⟨⟨z2, A9, c9, f2, rfl, ht2, hf2⟩, hb9⟩
      have ht19 := HT1.out.below hb9
      have HT2 := Lib.hid ht2
      have HT19 := Lib.hid ht19
      have HF2 := Lib.hid hf2
      have HB9 := Lib.hid (HB8'.out.trans (hb9.mono HB8'.out.size))
      clear ht2 ht19 hf2 hb9
      go_wp2
      go_ret3
      have hal := HAL.out
      obtain ⟨m1, m2, hq, -, -⟩ := Sk.quo_of (a := a) (b := b) (na := na) (nb := nb) (by omega) (fun k hk => HNE.out k (by omega)) HFD.out.1 HGD.out.1 HFD.out.2 (by have := HD2.out; omega) HD.out HVAL.out HGC.out HT19.out.q.po HT2.out.q.po (by rw [HF1.out, Pl.mul_comm]) (by rw [HF2.out, Pl.mul_comm])
      exact ⟨.inl ⟨z1, z2, f1, f2, m1, m2, rfl, HT19.out.wid (by omega), HT2.out.wid (by omega), hq⟩, HB9.out⟩
    · have hno : ∀ p q, ¬ Fit a b na nb p q := fun p q h => by
        have h1 := h.few
        have h2 := h.more
        have h3 := HD.out
        have h4 := HD2.out
        have h5 := HD3.out
        have h6 := HAL.out
        obtain ⟨v, hv1, hv2⟩ := Sk.fit_sol (dF := dF) (dG := dG) h (by omega) (by omega)
        rw [← HU.out] at hv1 hv2
        exact hnov v hv1 fun k hk => hv2 k (by omega)
      have HNO := Lib.hid hno
      clear hno hnov f0 f1 f2 f3
      go_wp2
      go_ret3
      exact ⟨.inr ⟨rfl, HNO.out⟩, HB5.out⟩
end Go.Proofs.Ytcbcmnbfflaicaa
