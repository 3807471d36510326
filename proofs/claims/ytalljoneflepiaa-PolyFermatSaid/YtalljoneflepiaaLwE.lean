/-
  PolyFroms: the least polynomial with some values, and that of some roots, is the document's.
-/
import Derived.Test.YtalljoneflepiaaHpb
namespace Go.Proofs.Ytalljoneflepiaa
open Go.RowKit

/-- A slice of up to d numbers of 64 bits. -/
def Nv (w : World) (o : Value) (l : List Nat) (d : Nat) : Prop := ∃ A n c, o = .slice A n c ∧ Pt w A n c l ∧ (∀ y ∈ l, y < 18446744073709551616) ∧ n ≤ d
theorem Nv.below {w w' : World} {o : Value} {l : List Nat} {d : Nat} (h : Nv w o l d) (hb : Below w.heap.size w w') : Nv w' o l d := by
  obtain ⟨A, n, c, e, h1, h2⟩ := h
  exact ⟨A, n, c, e, h1.below hb, h2⟩
theorem Nv.new {w : World} {o : Value} {l : List Nat} {d : Nat} (h : Nv w o l d) (x : Obj) : Nv (w.alloc x) o l d := h.below ((Below.refl _ w).alloc (Nat.le_refl _) _)
theorem Nv.take {w : World} {A : Option Addr} {n c k d : Nat} {l : List Nat} (h : Nv w (.slice A n c) l d) (hk : k ≤ n) : Nv w (.slice A k c) (l.take k) d := by
  obtain ⟨_, _, _, e, h1, h2, h3⟩ := h
  injection e with e1 e2 e3
  subst e1 e2 e3
  exact ⟨A, k, c, rfl, ⟨by rw [List.length_take]; have := h1.1; omega, h1.2.1.take k, by have := h1.2.2.1; omega, h1.2.2.2⟩, fun y hy => h2 y (List.mem_of_mem_take hy), by omega⟩
theorem Nv.len {w : World} {o : Value} {l : List Nat} {d : Nat} (h : Nv w o l d) : l.length ≤ d := by
  obtain ⟨A, n, c, e, h1, h2, h3⟩ := h
  have := h1.1
  omega
theorem numsn_v {w : World} {A : Option Addr} {n c : Nat} {l : List Nat} (h : In w A n c l) (m : Nat) (hm : m ≤ 1000) :
    Calls Try.prog 23 #[.slice A n c, .int .i64 (m : Int)] w fun e w' => (∃ z, e = .returned z ∧ Nv w' z (l.take m) m) ∧ Below w.heap.size w w' := by
  refine (nums_gl l A n c m w h.1 h.2.1 hm h.2.2.2.1 h.2.2.2.2).mono ?_
  rintro e w' ⟨⟨z, rfl, hz⟩, hb⟩
  obtain ⟨A', c', rfl, hp, _⟩ := hz.pt
  exact ⟨⟨_, rfl, A', _, c', rfl, hp, fun y hy => h.2.2.1 y (List.mem_of_mem_take hy), by rw [List.length_take]; exact Nat.min_le_left _ _⟩, hb⟩
theorem small_v {w : World} {A : Option Addr} {n c : Nat} {l : List Int} (h : Iz w A n l) (m : Nat) (hm : m ≤ 1000) :
    Calls Try.prog 28 #[.slice A n c, .int .i64 (m : Int)] w fun e w' => (∃ z L, e = .returned z ∧ Nv w' z L m) ∧ Below w.heap.size w w' := by
  refine (small_any h m hm).mono ?_
  rintro e w' ⟨⟨z, L, rfl, hz, hl, hy⟩, hb⟩
  obtain ⟨A', c', rfl, hp, _⟩ := hz.pt
  exact ⟨⟨_, L, rfl, A', _, c', rfl, hp, fun y h => Nat.lt_trans (hy y h) (by omega), hl⟩, hb⟩
/-- The polynomial of the least degree with the values; 0, if there is none. -/
noncomputable def fxs (xs ys : List Nat) : Pl := open Classical in if h : xs.length = ys.length ∧ Pl.Dis xs xs.length ∧ ∃ s, Pl.Fi xs ys xs.length s then Classical.choose h.2.2 else 0
theorem fxs_eq {xs ys : List Nat} {s : Pl} (h : xs.length = ys.length) (hd : Pl.Dis xs xs.length) (hs : Pl.Fi xs ys xs.length s) : fxs xs ys = s := by
  have h3 : xs.length = ys.length ∧ Pl.Dis xs xs.length ∧ ∃ s, Pl.Fi xs ys xs.length s := ⟨h, hd, s, hs⟩
  unfold fxs
  rw [dif_pos h3]
  exact (Classical.choose_spec h3.2.2).uniq hd hs
theorem fxs_zero {xs ys : List Nat} (h : ¬ (xs.length = ys.length ∧ Pl.Dis xs xs.length)) : fxs xs ys = 0 := by
  unfold fxs
  rw [dif_neg fun h2 => h ⟨h2.1, h2.2.1⟩]
theorem rfrom_ne (A A2 : Option Addr) (n m ca cb : Nat) (w : World) (hnm : n ≠ m) :
    Calls Try.prog 30 #[.slice A n ca, .slice A2 m cb] w fun e w' => e = .returned (.slice none 0 0) ∧ Below w.heap.size w w' := by
  have h1 : ((n : Int) != (m : Int)) = true := by rw [bne_iff_ne]; omega
  go_enter Try.func30, Try.ntmps30
  go_wp2
  go_ret
  exact ⟨rfl, Below.refl _ _⟩
section
variable {w : World} {o o2 : Value} {xs ys : List Nat} {d k : Nat}
theorem from_v (h : Nv w o xs d) (h' : Nv w o2 ys k) (hd : d ≤ 1000) (_hk : k ≤ 1000) : Calls Try.prog 29 #[o, o2] w fun e w' => (∃ z, e = .returned z ∧ Tv w' z (fxs xs ys) 1000) ∧ Below w.heap.size w w' := by
  obtain ⟨A, n, c, rfl, h1, h2, h3⟩ := h
  obtain ⟨A', n', c', rfl, h1', h2', h3'⟩ := h'
  by_cases he : n = n'
  · subst he
    refine (from_same A A' n c c' xs ys w h1.1 h1'.1 (by omega) h2 h2' h1.2.1 h1'.2.1).mono ?_
    rintro e w' ⟨⟨g1, g2⟩, hb⟩
    refine ⟨?_, hb⟩
    have hn := h1.1
    have hn' := h1'.1
    by_cases hD : Pl.Dis xs n
    · obtain ⟨s, hp, hs⟩ := g1 hD
      rw [hn] at hD hs
      rw [fxs_eq (by omega) hD hs]
      exact Tv.mk hp (hs.1.mono (by omega))
    · rw [g2 hD, fxs_zero fun h => hD (by rw [hn]; exact h.2)]
      exact ⟨_, rfl, Tv.nil _ _⟩
  · refine (from_ne A A' n n' c c' w he).mono ?_
    rintro e w' ⟨rfl, hb⟩
    rw [fxs_zero fun h => he (by rw [h1.1, h1'.1]; exact h.1)]
    exact ⟨⟨_, rfl, Tv.nil _ _⟩, hb⟩
theorem rfrom_v (h : Nv w o xs d) (h' : Nv w o2 ys k) (hd : d ≤ 1000) (_hk : k ≤ 1000) : Calls Try.prog 30 #[o, o2] w fun e w' => (∃ z, e = .returned z ∧ Tv w' z (fxs xs ys) 1000) ∧ Below w.heap.size w w' := by
  obtain ⟨A, n, c, rfl, h1, h2, h3⟩ := h
  obtain ⟨A', n', c', rfl, h1', h2', h3'⟩ := h'
  by_cases he : n = n'
  · subst he
    refine (rfrom_same A A' n c c' xs ys w h1.1 h1'.1 (by omega) h2' h1.2.1 h1'.2.1).mono ?_
    rintro e w' ⟨⟨g1, g2⟩, hb⟩
    refine ⟨?_, hb⟩
    have hn := h1.1
    have hn' := h1'.1
    by_cases hD : Pl.Dis xs n
    · obtain ⟨z, s, rfl, hz, hs⟩ := g1 hD
      rw [hn] at hD hs
      rw [fxs_eq (by omega) hD hs]
      exact ⟨z, rfl, hz.wide (by omega)⟩
    · rw [g2 hD, fxs_zero fun h => hD (by rw [hn]; exact h.2)]
      exact ⟨_, rfl, Tv.nil _ _⟩
  · refine (rfrom_ne A A' n n' c c' w he).mono ?_
    rintro e w' ⟨rfl, hb⟩
    rw [fxs_zero fun h => he (by rw [h1.1, h1'.1]; exact h.1)]
    exact ⟨⟨_, rfl, Tv.nil _ _⟩, hb⟩
theorem from_any_w (h : Nv w o xs 8) (h' : Nv w o2 ys 8) (W : World) (hW : Below w.heap.size w W) : Calls Try.prog 29 #[o, o2] W fun e w' => (∃ z, e = .returned z ∧ Tv w' z (fxs xs ys) 1000) ∧ Below w.heap.size w w' ∧ Below W.heap.size W w' :=
  (from_v (h.below hW) (h'.below hW) (by omega) (by omega)).mono fun _ _ ⟨g, b⟩ => ⟨g, hW.trans (b.mono hW.size), b⟩
theorem rfrom_any_w (h : Nv w o xs 8) (h' : Nv w o2 ys 8) (W : World) (hW : Below w.heap.size w W) : Calls Try.prog 30 #[o, o2] W fun e w' => (∃ z, e = .returned z ∧ Tv w' z (fxs xs ys) 1000) ∧ Below w.heap.size w w' ∧ Below W.heap.size W w' :=
  (rfrom_v (h.below hW) (h'.below hW) (by omega) (by omega)).mono fun _ _ ⟨g, b⟩ => ⟨g, hW.trans (b.mono hW.size), b⟩
theorem of_v (h : Nv w o xs d) (hd : d ≤ 1000) : Calls Try.prog 31 #[o] w fun e w' => (∃ z, e = .returned z ∧ Tv w' z (Pl.prodR xs) 1001) ∧ Below w.heap.size w w' := by
  obtain ⟨A, n, c, rfl, h1, h2, h3⟩ := h
  refine (of_poly A n c xs w (by omega) h1.1 h2 h1.2.1).mono ?_
  rintro e w' ⟨⟨g, L, rfl, g1, g2, g3, g4, g5⟩, hb⟩
  have hdg := Pl.Dg.prodR xs
  rw [← g5, ← h1.1] at hdg
  exact ⟨⟨_, rfl, _, n + 1, n + 1, L, rfl, ⟨g3.symm, g2.rd g2.lt, Nat.le_refl _, fun e => by cases e⟩, ⟨hdg.1.tr g4 g3, g5⟩, by omega⟩, hb⟩
theorem rof_v (h : Nv w o xs d) (hd : d ≤ 1000) : Calls Try.prog 32 #[o] w fun e w' => (∃ z, e = .returned z ∧ Tv w' z (Pl.prodR xs) (d + 1)) ∧ Below w.heap.size w w' := by
  obtain ⟨A, n, c, rfl, h1, h2, h3⟩ := h
  refine (rof_poly A n c xs w h1.1 (by omega) h1.2.1).mono ?_
  rintro e w' ⟨⟨z, rfl, hz⟩, hb⟩
  exact ⟨⟨z, rfl, hz.wide (by omega)⟩, hb⟩
end

set_option maxRecDepth 100000 in
set_option maxHeartbeats 8000000 in
theorem froms_walk (A A2 A3 : Option Addr) (n c m c2 m3 c3 : Nat) (l l2 : List Nat) (l3 : List Int) (w : World) (hA : In w A n c l) (hB : In w A2 m c2 l2) (hC : Iz w A3 m3 l3) :
    Calls Try.prog 5 #[.slice A n c, .slice A2 m c2, .slice A3 m3 c3] w fun e w' => e = .returned (.bool true) ∧ Below w.heap.size w w' := by
  have A0 := Lib.hid hA
  have B0 := Lib.hid hB
  have C0 := Lib.hid hC
  have hk0 : Below w.heap.size w w := Below.refl _ _
  clear hA hB hC
  go_enter Try.func5, Try.ntmps5
  go_wp2_with fail
  refine (numsn_v A0.out 8 (by omega)).mono ?_
  rintro e w1 ⟨⟨x, rfl, h⟩, hb1⟩
  have hk1 := kept_trans hk0 hb1
  have B1 := Lib.hid (B0.out.below hb1)
  have C1 := Lib.hid (C0.out.below hb1)
  have X1 := Lib.hid h
  clear hb1 hk0 A0 B0 C0 h
  go_wp2_with fail
  refine (numsn_v B1.out 8 (by omega)).mono ?_
  rintro e w2 ⟨⟨y, rfl, h⟩, hb2⟩
  have hk2 := kept_trans hk1 hb2
  have C2 := Lib.hid (C1.out.below hb2)
  have X2 := Lib.hid (X1.out.below hb2)
  have Y2 := Lib.hid h
  clear hb2 hk1 B1 C1 X1 h
  go_wp2_with fail
  refine (small_v C2.out 8 (by omega)).mono ?_
  rintro e w3 ⟨⟨s, S, rfl, h⟩, hb3⟩
  have hk3 := kept_trans hk2 hb3
  have X3 := Lib.hid (X2.out.below hb3)
  have Y3 := Lib.hid (Y2.out.below hb3)
  have S3 := Lib.hid h
  clear hb3 hk2 C2 X2 Y2 h
  go_wp2_with fail
  refine (from_v X3.out Y3.out (by omega) (by omega)).mono ?_
  rintro e w4 ⟨⟨z1, rfl, h⟩, hb4⟩
  have hk4 := kept_trans hk3 hb4
  have X4 := Lib.hid (X3.out.below hb4)
  have Y4 := Lib.hid (Y3.out.below hb4)
  have S4 := Lib.hid (S3.out.below hb4)
  have D4 := Lib.hid h
  clear hb4 hk3 X3 Y3 S3 h
  go_wp2_with fail
  refine (rfrom_v X4.out Y4.out (by omega) (by omega)).mono ?_
  rintro e w5 ⟨⟨z2, rfl, h⟩, hb5⟩
  have hk5 := kept_trans hk4 hb5
  have X5 := Lib.hid (X4.out.below hb5)
  have Y5 := Lib.hid (Y4.out.below hb5)
  have S5 := Lib.hid (S4.out.below hb5)
  have D5 := Lib.hid (D4.out.below hb5)
  have E5 := Lib.hid h
  clear hb5 hk4 X4 Y4 S4 D4 h
  go_wp2_with fail
  refine (same_v D5.out E5.out (by omega) (by omega)).mono ?_
  rintro e w6 ⟨rfl, hb6⟩
  have hk6 := kept_trans hk5 hb6
  have X6 := Lib.hid (X5.out.below hb6)
  have Y6 := Lib.hid (Y5.out.below hb6)
  have S6 := Lib.hid (S5.out.below hb6)
  clear hb6 hk5 X5 Y5 S5 D5 E5
  go_wp2_with fail
  refine (of_v S6.out (by omega)).mono ?_
  rintro e w7 ⟨⟨z1, rfl, h⟩, hb7⟩
  have hk7 := kept_trans hk6 hb7
  have X7 := Lib.hid (X6.out.below hb7)
  have Y7 := Lib.hid (Y6.out.below hb7)
  have S7 := Lib.hid (S6.out.below hb7)
  have D7 := Lib.hid h
  clear hb7 hk6 X6 Y6 S6 h
  go_wp2_with fail
  refine (rof_v S7.out (by omega)).mono ?_
  rintro e w8 ⟨⟨z2, rfl, h⟩, hb8⟩
  have hk8 := kept_trans hk7 hb8
  have X8 := Lib.hid (X7.out.below hb8)
  have Y8 := Lib.hid (Y7.out.below hb8)
  have S8 := Lib.hid (S7.out.below hb8)
  have D8 := Lib.hid (D7.out.below hb8)
  have E8 := Lib.hid h
  clear hb8 hk7 X7 Y7 S7 D7 h
  go_wp2_with fail
  refine (same_v D8.out E8.out (by omega) (by omega)).mono ?_
  rintro e w9 ⟨rfl, hb9⟩
  have hk9 := kept_trans hk8 hb9
  have X9 := Lib.hid (X8.out.below hb9)
  have Y9 := Lib.hid (Y8.out.below hb9)
  have S9 := Lib.hid (S8.out.below hb9)
  clear hb9 hk8 X8 Y8 S8 D8 E8
  go_wp2_with fail
  refine (of_v X9.out (by omega)).mono ?_
  rintro e w10 ⟨⟨z1, rfl, h⟩, hb10⟩
  have hk10 := kept_trans hk9 hb10
  have X10 := Lib.hid (X9.out.below hb10)
  have Y10 := Lib.hid (Y9.out.below hb10)
  have S10 := Lib.hid (S9.out.below hb10)
  have D10 := Lib.hid h
  clear hb10 hk9 X9 Y9 S9 h
  go_wp2_with fail
  refine (rof_v X10.out (by omega)).mono ?_
  rintro e w11 ⟨⟨z2, rfl, h⟩, hb11⟩
  have hk11 := kept_trans hk10 hb11
  have Y11 := Lib.hid (Y10.out.below hb11)
  have S11 := Lib.hid (S10.out.below hb11)
  have D11 := Lib.hid (D10.out.below hb11)
  have E11 := Lib.hid h
  clear hb11 hk10 X10 Y10 S10 D10 h
  have hS := S11.out
  have hY := Y11.out
  obtain ⟨As, ns, cs, rfl, hps, hbs, hns⟩ := hS
  obtain ⟨Ay, ny, cy, rfl, hpy, hby, hny⟩ := hY
  obtain ⟨k, hk⟩ : ∃ k, k = min ns ny := ⟨_, rfl⟩
  have hif : (if ny < ns then (ny : Int) else (ns : Int)) = (k : Int) := by split <;> omega
  have hks : k ≤ cs := by have := hps.2.2.1; omega
  have hky : k ≤ cy := by have := hpy.2.2.1; omega
  have hsl1 := slice_head 22 (by kernel_rfl) (fun W => by kernel_rfl) As ns cs k hks
  have hsl2 := slice_head 22 (by kernel_rfl) (fun W => by kernel_rfl) Ay ny cy k hky
  have hu : Nv w11 (.slice As k cs) (S.take k) 8 := Nv.take S11.out (by omega)
  have hv : Nv w11 (.slice Ay k cy) ((l2.take 8).take k) 8 := Nv.take Y11.out (by omega)
  have U11 := Lib.hid hu
  have V11 := Lib.hid hv
  clear hps hbs hns hpy hby hny hk hu hv
  go_wp2_with fail
  refine (same_v D11.out E11.out (by omega) (by omega)).mono ?_
  rintro e w12 ⟨rfl, hb12⟩
  have hk12 := kept_trans hk11 hb12
  have U12 := Lib.hid (U11.out.below hb12)
  have V12 := Lib.hid (V11.out.below hb12)
  clear hb12 hk11 Y11 S11 D11 E11 U11 V11
  have FR := Lib.hid (from_any_w U12.out V12.out)
  have RF := Lib.hid (rfrom_any_w U12.out V12.out)
  have hr0 : Below w12.heap.size w12 w12 := Below.refl _ _
  go_wp2_with fail
  go_region_with (first
    | (go_at_call 29; ((with_reducible refine (FR.out _ (by first | exact hr0 | exact below_to_drew hr0 | exact hbb | exact below_to_drew hbb)).mono ?_); rintro e wa ⟨⟨za, rfl, ha⟩, hba, hbaW⟩))
    | (go_at_call 30; ((with_reducible refine (RF.out _ (by first | exact hr0 | exact below_to_drew hr0 | exact hba | exact below_to_drew hba)).mono ?_); rintro e wb ⟨⟨zb, rfl, hb⟩, hbb, hbbW⟩))
    | (go_at_call 13; have q1 := same_v (ha.below hbbW) hb (by omega) (by omega); ((with_reducible refine q1.mono ?_); rintro e wc ⟨rfl, hbc⟩; have hkc := kept_trans hbb hbc))
    | (go_at_call 13; have q1 := same_v ha (hb.below hbaW) (by omega) (by omega); ((with_reducible refine q1.mono ?_); rintro e wc ⟨rfl, hbc⟩; have hkc := kept_trans hba hbc))
    | (go_at_call 22; ((with_reducible refine (lives_any _).mono ?_); rintro e wd ⟨rfl, hbd⟩)))
  all_goals
    go_wp2
    go_ret
    exact ⟨rfl, kept_trans hk12 (kept_trans hkc hbd)⟩

end Go.Proofs.Ytalljoneflepiaa
