/-
  Package poly's divide, as it is used: the dividend in memory of its own, the divisor anywhere else. For trimmed divisors, and up to a million numbers.
-/
import Derived.Test.YtalljoneflepiaaDva
namespace Go.Proofs.Ytalljoneflepiaa
open Go.RowKit Go.Shelf
attribute [local go_sem] Oper.semAt_some

/-- The first n numbers of a block that is all known say s. -/
structure Own (w : World) (g n c : Nat) (L : List Nat) (s : Pl) : Prop where
  ar : Ar w g L
  le : n ≤ L.length
  cap : n ≤ c
  sm : Pl.Sm L
  co : Pl.co (L.take n) = s
namespace Own
variable {w w' : World} {g n c : Nat} {L : List Nat} {s : Pl}
theorem lt (h : Own w g n c L s) : g < w.heap.size := h.ar.lt
theorem below {m : Nat} (h : Own w g n c L s) (hb : Below m w w') (hg : g < m) : Own w' g n c L s := ⟨h.ar.below hb hg, h.le, h.cap, h.sm, h.co⟩
theorem grown {k : Nat} (h : Own w g n c L s) (hb : w.grownBy w' (some k)) (hg : g ≠ k) : Own w' g n c L s := ⟨(hb.block g h.lt (fun e => hg (by injection e))).trans h.ar, h.le, h.cap, h.sm, h.co⟩
theorem pt (h : Own w g n c L s) : Pt w (some ⟨g, 0, none⟩) n c (L.take n) := ⟨by rw [List.length_take]; have := h.le; omega, (h.ar.rd h.lt).take n, h.cap, fun e => by cases e⟩
theorem po (h : Own w g n c L s) : Pl.Po s := h.co ▸ Pl.Po.co _
theorem lt_co (h : Own w g n c L s) : Pl.Lt s n := h.co ▸ (Pl.Lt.co _).mono (by rw [List.length_take]; omega)
theorem len (h : Own w g n c L s) (ht : Pl.Tr (L.take n)) {k : Nat} (hs : Pl.Lt s k) : n ≤ k := by
  have h1 := ht.len (h.co.symm ▸ hs)
  rw [List.length_take] at h1
  have := h.le
  omega
theorem zero (h : Own w g n c L s) (ht : Pl.Tr (L.take n)) : n = 0 ↔ s = 0 := by
  have h1 := ht.len_zero
  rw [h.co, List.length_take] at h1
  have := h.le
  rw [← h1]
  omega
theorem slice (h : Own w g n c L s) : (L.take n).length = n := by rw [List.length_take]; have := h.le; omega
end Own
theorem Got.own {lo : Nat} {s : Pl} {e : Ending} {w' : World} (h : Got lo s e w') : ∃ g n c L, e = .returned (.slice (some ⟨g, 0, none⟩) n c) ∧ lo ≤ g ∧ Own w' g n c L s ∧ Pl.Tr (L.take n) := by
  obtain ⟨g, m, c, L, e, h1, h2, h3, h4, h5, h6⟩ := h
  exact ⟨g, m, c, L, e, h1, ⟨h2, h3, by omega, h5, h6.2⟩, h6.1⟩

/-- Two tuples of slices: quotient and rest, in memory of their own. -/
def Divs (w : World) (g n c : Nat) (L : List Nat) (s : Pl) (b : List Nat) (e : Ending) (w' : World) : Prop :=
  ∃ gq nq Lq nr L' Q R, e = .returned (.tuple #[.slice (some ⟨gq, 0, none⟩) nq nq, .slice (some ⟨g, 0, none⟩) nr c]) ∧ w.heap.size ≤ gq ∧ Own w' gq nq nq Lq Q ∧ Own w' g nr c L' R ∧ Pl.Tr (L'.take nr) ∧ L'.length = L.length ∧ nr ≤ n ∧
    Pl.DM s (Pl.co b) Q R ∧ (Pl.Tr (L.take n) → Pl.Tr (Lq.take nq))

theorem divide_own (g n c : Nat) (L : List Nat) (s : Pl) (A2 : Option Addr) (m cb : Nat) (b : List Nat) (w : World) (hg : Own w g n c L s) (hn : n ≤ 1000000) (hb : Pt w A2 m cb b) (ht : Pl.Tr b) (hm0 : 0 < m) (hm : m ≤ 1000000)
    (hne : ∀ bl off, A2 = some ⟨bl, off, none⟩ → bl ≠ g) :
    Calls Try.prog 51 #[.slice (some ⟨g, 0, none⟩) n c, .slice A2 m cb] w fun e w' => Divs w g n c L s b e w' ∧ w.grownBy w' (some g) := by
  obtain ⟨lb, rfl⟩ : ∃ lb, m = lb + 1 := ⟨m - 1, by omega⟩
  refine (divide_some g n c (lb + 1) lb cb L A2 b w hg.ar hg.sm hg.le hg.cap hn rfl hb.1 hm ht (fun hp => ?_)).mono ?_
  · obtain ⟨bl, off, e, h1, h2⟩ := hb.2.1 hp
    exact ⟨bl, off, e, hne _ _ e, h1, h2⟩
  · rintro e w' ⟨⟨gq, nq, Lq, La', nr, rfl, h1, h2, h3, h4, h5, h6, h7, h8, h9, h10, h11⟩, h12⟩
    have hq : Lq.take nq = Lq := List.take_of_length_le (by omega)
    refine ⟨⟨gq, nq, Lq, nr, La', Pl.co Lq, _, rfl, h1, ⟨h2, by omega, Nat.le_refl _, h4, by rw [hq]⟩, ⟨h5, by have := hg.le; omega, Nat.le_trans h7 hg.cap, h8, rfl⟩, h9, h6, h7, by rw [← hg.co]; exact h10, fun h => by rw [hq]; exact h11 h⟩, h12⟩

set_option maxRecDepth 100000 in
set_option maxHeartbeats 1000000 in
theorem divide_none (A A2 : Option Addr) (la ca cb : Nat) (w : World) :
    Calls Try.prog 51 #[.slice A la ca, .slice A2 (0 : Nat) cb] w fun e w' => e = .returned (.tuple #[.slice none 0 0, .slice none 0 0]) ∧ Below w.heap.size w w' := by
  refine (callsIn_wide (n := 3)).1 ?_
  refine callsIn_of_wp_marks Try.func51 rfl trivial ?_ rfl
  simp only [Try.ntmps51, List.size_toArray, List.length_cons, List.length_nil, Nat.reduceAdd, Nat.reduceSub, Array.replicate_succ, Array.replicate_zero, List.push_toArray, List.append_toArray, List.nil_append, List.cons_append]
  gi_wp2_with fail
  refine ⟨.tuple #[.slice none 0 0, .slice none 0 0], run_cell_tmp (fn := Try.f51) (p := 4) (u := 5) rfl _ _ ⟨w.heap.size + 1 + 1, 0, none⟩ _ rfl ?_, rfl, ?_⟩
  · have h := (cell_new_l ((w.alloc (.cells #[.slice A la ca] 22)).alloc (.cells #[.slice A2 (0 : Nat) cb] 22)) (.slice none 0 0) 22).1
    simp only [World.size_alloc] at h
    exact h
  · exact (((Below.refl _ w).alloc (Nat.le_refl _) _).alloc (by simp) _).alloc (by simp; omega) _

/-- What DivMod tells. -/
def DivT (lo : Nat) (a b : List Nat) (e : Ending) (w' : World) : Prop :=
  ∃ A1 n1 c1 l1 A2 n2 c2 l2, e = .returned (.tuple #[.slice A1 n1 c1, .slice A2 n2 c2]) ∧ Pt w' A1 n1 c1 l1 ∧ Pt w' A2 n2 c2 l2 ∧ Pl.Tr l1 ∧ Pl.Tr l2 ∧
    (Pl.co b = 0 → l1 = [] ∧ l2 = []) ∧ (Pl.co b ≠ 0 → Pl.DM (Pl.co a) (Pl.co b) (Pl.co l1) (Pl.co l2)) ∧ ∀ bl off, A1 = some ⟨bl, off, none⟩ → lo ≤ bl

theorem Pt.nil (w : World) : Pt w none 0 0 [] := ⟨rfl, Rd.nil, Nat.le_refl _, fun _ => rfl⟩

set_option maxRecDepth 100000 in
set_option maxHeartbeats 1000000 in
theorem divmod_poly (A A2 : Option Addr) (la ca lb cb : Nat) (a b : List Nat) (w : World) (hn : la = a.length) (hm : lb = b.length) (hla : la ≤ 1000000) (hlb : lb ≤ 1000000)
    (ha : ∀ y ∈ a, y < 18446744073709551616) (hb : ∀ y ∈ b, y < 18446744073709551616) (hA : Rd w.heap.size w A (u64s a)) (hA2 : Rd w.heap.size w A2 (u64s b)) :
    Calls Try.prog 24 #[.slice A la ca, .slice A2 lb cb] w fun e w' => DivT w.heap.size a b e w' ∧ Below w.heap.size w w' := by
  have h1 := trim_poly A la ca a w hn hla ha hA
  have h2 := fun w1 (hw : Below w.heap.size w w1) => trim_poly A2 lb cb b w1 hm hlb hb ((hA2.below hw).more hw.size)
  have H1 := Lib.hid h1
  have H2 := Lib.hid h2
  have HA := Lib.hid (hn ▸ hla : a.length ≤ 1000000)
  have HB := Lib.hid (hm ▸ hlb : b.length ≤ 1000000)
  clear h1 h2 hn hm ha hb hA hA2
  go_enter Try.func24, Try.ntmps24
  go_wp2_with fail
  refine H1.out.mono ?_
  rintro e w1 ⟨hg1, hb1⟩
  obtain ⟨g1, n1, c1, L1, rfl, hl1, ho1, ht1⟩ := hg1.own
  have HO1 := Lib.hid ho1
  have HT1 := Lib.hid ht1
  clear hg1 ho1 ht1
  go_wp2_with fail
  refine (H2.out w1 hb1).mono ?_
  rintro e w2 ⟨hg2, hb2⟩
  obtain ⟨g2, n2, c2, L2, rfl, hl2, ho2, ht2⟩ := hg2.own
  have hlt1 := HO1.out.lt
  have hne : g2 ≠ g1 := by omega
  have hn1 : n1 ≤ 1000000 := Nat.le_trans (HO1.out.len HT1.out (Pl.Lt.co a)) HA.out
  have hn2 : n2 ≤ 1000000 := Nat.le_trans (ho2.len ht2 (Pl.Lt.co b)) HB.out
  have ho3 := HO1.out.below hb2 hlt1
  have HO2 := Lib.hid ho2
  have HO3 := Lib.hid ho3
  have HT2 := Lib.hid ht2
  clear hg2 ho2 ht2 ho3
  have hs1 := hb1.size
  have hs2 := hb2.size
  have hb02 : Below w.heap.size w w2 := hb1.trans (hb2.mono hs1)
  rcases Nat.eq_zero_or_pos n2 with h0 | h0
  · subst h0
    have hz : Pl.co b = 0 := (HO2.out.zero HT2.out).1 rfl
    have HZ := Lib.hid hz
    clear hz
    go_wp2_with fail
    refine (divide_none (some ⟨g1, 0, none⟩) (some ⟨g2, 0, none⟩) n1 c1 c2 w2).mono ?_
    rintro e w3 ⟨rfl, hb3⟩
    go_wp2
    go_ret2
    exact ⟨⟨_, _, _, _, _, _, _, _, rfl, Pt.nil _, Pt.nil _, Pl.Tr.nil, Pl.Tr.nil, fun _ => ⟨rfl, rfl⟩, fun h => absurd HZ.out h, fun bl off e => by cases e⟩, hb02.trans (hb3.mono (by omega))⟩
  · go_wp2_with fail
    refine (divide_own g1 n1 c1 L1 _ (some ⟨g2, 0, none⟩) n2 c2 _ w2 HO3.out hn1 HO2.out.pt HT2.out h0 hn2 (fun bl off e => by injection e with e; injection e with e1; omega)).mono ?_
    rintro e w3 ⟨⟨gq, nq, Lq, nr, L', Q, R, rfl, k1, k2, k3, k4, k5, k6, k7, k8⟩, hg3⟩
    have K := Lib.hid (And.intro k2 (And.intro k3 (And.intro k4 (And.intro k7 k8))))
    clear k2 k3 k4 k7 k8
    go_wp2
    go_ret2
    obtain ⟨k2, k3, k4, k7, k8⟩ := K.out
    have hb3 : Below w.heap.size w2 w3 := below_only hg3 hl1 (by omega)
    refine ⟨⟨_, _, _, _, _, _, _, _, rfl, k2.pt, k3.pt, k8 HT1.out, k4, fun h => ?_, fun _ => ?_, fun bl off e => by injection e with e; injection e with e1; omega⟩, hb02.trans hb3⟩
    · have := (HO2.out.zero HT2.out).2 h; omega
    · rw [k2.co, k3.co, ← HO2.out.co]; exact k7
end Go.Proofs.Ytalljoneflepiaa
