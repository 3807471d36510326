/-
  The document's example: (x - 1)(x - 2), its roots, what has 5 at 0 and 7 at 1, and the value at 5.
-/
import Derived.Test.YtalljoneflepiaaHpa
import Derived.Test.YtalljoneflepiaaLawA
namespace Go.Proofs.Ytalljoneflepiaa
open Go.RowKit

/-! ### lists that rise -/
theorem rise_uniq : ∀ (a b : List Nat), a.Pairwise (· < ·) → b.Pairwise (· < ·) → (∀ x, x ∈ a ↔ x ∈ b) → a = b
  | [], [], _, _, _ => rfl
  | [], y :: b, _, _, h => absurd ((h y).2 List.mem_cons_self) List.not_mem_nil
  | x :: a, [], _, _, h => absurd ((h x).1 List.mem_cons_self) List.not_mem_nil
  | x :: a, y :: b, ha, hb, h => by
    have ha' := List.pairwise_cons.1 ha
    have hb' := List.pairwise_cons.1 hb
    have hxy : x = y := by
      rcases List.mem_cons.1 ((h x).1 List.mem_cons_self) with e | e
      · exact e
      · rcases List.mem_cons.1 ((h y).2 List.mem_cons_self) with e' | e'
        · exact e'.symm
        · have := hb'.1 x e
          have := ha'.1 y e'
          omega
    subst hxy
    rw [rise_uniq a b ha'.2 hb'.2 fun z => ?_]
    constructor
    · intro hz
      rcases List.mem_cons.1 ((h z).1 (List.mem_cons_of_mem _ hz)) with e | e
      · have := ha'.1 z hz; omega
      · exact e
    · intro hz
      rcases List.mem_cons.1 ((h z).2 (List.mem_cons_of_mem _ hz)) with e | e
      · have := hb'.1 z hz; omega
      · exact e
theorem Up.rise {l : List Nat} (h : Up l) (hn : l.Nodup) : l.Pairwise (· < ·) :=
  (List.Pairwise.and h hn).imp fun ⟨h1, h2⟩ => Nat.lt_of_le_of_ne h1 h2
theorem rof_uniq {f : Pl} {a b : List Nat} (ha : Pl.Rof f a) (hua : Up a) (hb : Pl.Rof f b) (hub : Up b) : a = b :=
  rise_uniq a b (hua.rise ha.2.1) (hub.rise hb.2.1) fun x => by
    constructor
    · intro hx; exact (hb.2.2 x (ha.1 x hx)).2 ((ha.2.2 x (ha.1 x hx)).1 hx)
    · intro hx; exact (ha.2.2 x (hb.1 x hx)).2 ((hb.2.2 x (hb.1 x hx)).1 hx)

/-- The example's polynomial. -/
def LvL : List Nat := [2, 2305843009213693948, 1]
theorem LvL_tr : Pl.Tr LvL := ⟨by intro x hx; simp [LvL] at hx; omega, .inr (by decide)⟩
theorem LvL_co : Pl.co LvL = Pl.prodR [1, 2] := by
  have h := Pl.co_prod [Fld.sub 0 1, 1] [Fld.sub 0 2, 1] 3 rfl
  rw [Pl.co_root, Pl.co_root] at h
  show Pl.co LvL = Pl.lin (Fld.to 1) * (Pl.lin (Fld.to 2) * Pl.C 1)
  rw [Pl.mul_one, ← h]
  congr 1
theorem lv_rof : Pl.Rof (Pl.co LvL) [1, 2] := by
  refine ⟨by intro x hx; simp at hx; omega, by decide, fun x hx => ?_⟩
  rw [LvL_co]
  show _ ↔ Pl.val (Pl.lin (Fld.to 1) * (Pl.lin (Fld.to 2) * Pl.C 1)) (Fld.to x) = 0
  rw [Pl.mul_one, Pl.val_mul (Pl.Po.lin _) (Pl.Po.lin _), Pl.val_lin, Pl.val_lin, Fld.mul_eq_zero]
  have key : ∀ c, c < 2305843009213693951 → (Fld.to x - Fld.to c = 0 ↔ x = c) := fun c hc => by
    constructor
    · intro h; exact Pl.to_inj' hx hc (by grind)
    · intro h; rw [h]; grind
  rw [key 1 (by omega), key 2 (by omega)]
  simp
theorem lv_fi : Pl.Fi [0, 1] [5, 7] 2 (Pl.co [5, 2]) := by
  refine ⟨Pl.Lt.co [5, 2], fun j hj => ?_⟩
  match j, hj with
  | 0, _ => show Pl.val (Pl.co [5, 2]) (Fld.to 0) = Fld.to 5; rw [← Pl.hv_val]; congr 1
  | 1, _ => show Pl.val (Pl.co [5, 2]) (Fld.to 1) = Fld.to 7; rw [← Pl.hv_val]; congr 1
theorem lv_dis : Pl.Dis [0, 1] 2 := by
  intro i j hi hj
  obtain rfl : j = 1 := by omega
  obtain rfl : i = 0 := by omega
  show Fld.to 0 ≠ Fld.to 1
  intro h
  exact absurd (Pl.to_inj' (by omega) (by omega) h) (by omega)
theorem lv_ev : Pl.hv 5 LvL = 12 := by decide +kernel

theorem rd_news (w : World) (l : List Nat) : Rd (w.alloc (.cells (u64s l).toArray 23)).heap.size (w.alloc (.cells (u64s l).toArray 23)) (some ⟨w.heap.size, 0, none⟩) (u64s l) := Rd.of_blk (blk_new w 23 _)

theorem lv_of (w : World) : Calls Try.prog 31 #[.slice (some ⟨w.heap.size, 0, none⟩) 2 2] (w.alloc (.cells #[.int .u64 1, .int .u64 2] 23)) fun e w' => (∃ A c, e = .returned (.slice A 3 c) ∧ Pt w' A 3 c LvL) ∧ Below w.heap.size w w' := by
  have hb0 : Below w.heap.size w (w.alloc (.cells #[.int .u64 1, .int .u64 2] 23)) := (Below.refl _ w).alloc (Nat.le_refl _) _
  refine (of_poly (some ⟨w.heap.size, 0, none⟩) 2 2 [1, 2] _ (by omega) rfl (by intro y hy; simp at hy; omega) (rd_news w [1, 2])).mono ?_
  rintro e w' ⟨⟨g, L, rfl, h1, h2, h3, h4, h5⟩, hb⟩
  have hL : L = LvL := by
    refine Pl.co_inj ⟨h4, .inr ?_⟩ LvL_tr (h5.trans LvL_co.symm)
    intro h0
    have h6 : Pl.co L 2 = Pl.co LvL 2 := by rw [h5, LvL_co]
    rw [Pl.co_at, Pl.co_at, show L[2]?.getD 0 = 0 by rw [h3] at h0; exact h0] at h6
    exact absurd (Pl.to_inj' (by omega) (by decide) h6) (by decide)
  subst hL
  exact ⟨⟨_, 3, rfl, rfl, h2.rd h2.lt, Nat.le_refl _, fun e => by cases e⟩, hb0.trans (hb.mono hb0.size)⟩
theorem lv_same (w : World) (A A2 : Option Addr) (n c c2 : Nat) (l : List Nat) (h1 : Pt w A n c l) (h2 : Rd w.heap.size w A2 (u64s l)) (hn : n ≤ 1000000) :
    Calls Try.prog 13 #[.slice A n c, .slice A2 n c2] w fun e w' => e = .returned (.bool true) ∧ Below w.heap.size w w' := by
  have h := same64_any l l A A2 n c n c2 w h1.1 h1.1 (by omega) (by omega) h1.2.1 h2
  rwa [show decide (l = l) = true from decide_eq_true rfl] at h
theorem lv_roots (w : World) (A : Option Addr) (c : Nat) (h : Pt w A 3 c LvL) : Calls Try.prog 36 #[.slice A 3 c] w fun e w' => (∃ A c, e = .returned (.slice A 2 c) ∧ Pt w' A 2 c [1, 2]) ∧ Below w.heap.size w w' := by
  refine (roots_any A 3 c LvL w h.1 (by omega) LvL_tr.1.big h.2.1).mono ?_
  rintro e w' ⟨⟨A', n, c', rs, rfl, hp, _, hr⟩, hb⟩
  have hne : Pl.co LvL ≠ 0 := fun h => by have := LvL_tr.zero h; cases this
  have hrs := rof_uniq (hr hne).1 (hr hne).2 lv_rof (by unfold Up; decide)
  subst hrs
  have hn : n = 2 := hp.1
  subst hn
  exact ⟨⟨A', c', rfl, hp⟩, hb⟩
theorem lv_from (w : World) (A A2 : Option Addr) (h1 : Rd w.heap.size w A (u64s [0, 1])) (h2 : Rd w.heap.size w A2 (u64s [5, 7])) : Calls Try.prog 29 #[.slice A 2 2, .slice A2 2 2] w fun e w' => (∃ A c, e = .returned (.slice A 2 c) ∧ Pt w' A 2 c [5, 2]) ∧ Below w.heap.size w w' := by
  refine (from_same A A2 2 2 2 [0, 1] [5, 7] w rfl rfl (by omega) (by intro y hy; simp at hy; omega) (by intro y hy; simp at hy; omega) h1 h2).mono ?_
  rintro e w' ⟨⟨h3, _⟩, hb⟩
  obtain ⟨s, ⟨A, n, c, l, rfl, hp, hi, _⟩, hfi⟩ := h3 lv_dis
  have hs := hfi.uniq lv_dis lv_fi
  subst hs
  have hl : l = [5, 2] := Pl.co_inj hi.1 ⟨by intro x hx; simp at hx; omega, .inr (by decide)⟩ hi.2
  subst hl
  have hn : n = 2 := hp.1
  subst hn
  exact ⟨⟨A, c, rfl, hp⟩, hb⟩
theorem lv_eval (w : World) (A : Option Addr) (c : Nat) (h : Pt w A 3 c LvL) : Calls Try.prog 20 #[.slice A 3 c, .int .u64 5] w fun e w' => e = .returned (.int .u64 12) ∧ Below w.heap.size w w' := by
  have h1 := eval_poly A 3 c 5 LvL w (by omega) (by omega) h.1 LvL_tr.1.big h.2.1
  rw [lv_ev] at h1
  exact h1

theorem below_new {w1 w2 : World} {o : Obj} (h : Below (w1.alloc o).heap.size (w1.alloc o) w2) : Below w1.heap.size w1 w2 := ((Below.refl _ w1).alloc (Nat.le_refl _) _).trans (h.mono (by simp))
theorem Pt.new {w : World} {A : Option Addr} {n c : Nat} {l : List Nat} (h : Pt w A n c l) (o : Obj) : Pt (w.alloc o) A n c l := h.below ((Below.refl _ w).alloc (Nat.le_refl _) _)

set_option maxRecDepth 100000 in
set_option maxHeartbeats 4000000 in
theorem lives_any (w : World) : Calls Try.prog 22 #[] w fun e w' => e = .returned (.bool true) ∧ Below w.heap.size w w' := by
  go_enter Try.func22, Try.ntmps22
  go_wp2_with fail
  refine (lv_of w).mono ?_
  rintro e w1 ⟨⟨A1, c1, rfl, hp1⟩, hb1⟩
  have HP1 := Lib.hid hp1
  clear hp1
  go_wp2_with fail
  have h2 := lv_same (w1.alloc (.cells (u64s LvL).toArray 23)) A1 (some ⟨w1.heap.size, 0, none⟩) 3 c1 3 LvL (HP1.out.new _) (rd_news w1 LvL) (by omega)
  refine Calls.mono ((show Calls Try.prog 13 #[.slice A1 3 c1, .slice (some ⟨w1.heap.size, 0, none⟩) 3 3] (w1.alloc (.cells #[.int .u64 2, .int .u64 2305843009213693948, .int .u64 1] 23)) _ from h2)) ?_
  rintro e w2 ⟨rfl, hb2⟩
  have hk2 := kept_trans hb1 (below_new hb2)
  have HP2 := Lib.hid (HP1.out.below (below_new hb2))
  clear h2 hb2 hb1
  go_wp2_with fail
  refine (lv_roots w2 A1 c1 HP2.out).mono ?_
  rintro e w3 ⟨⟨A3, c3, rfl, hp3⟩, hb3⟩
  have hk3 := kept_trans hk2 hb3
  have HP3 := Lib.hid (HP2.out.below hb3)
  have HQ3 := Lib.hid hp3
  clear hp3 hb3 hk2
  go_wp2_with fail
  refine (lv_same (w3.alloc (.cells #[.int .u64 1, .int .u64 2] 23)) A3 (some ⟨w3.heap.size, 0, none⟩) 2 c3 2 [1, 2] (HQ3.out.new _) (rd_news w3 [1, 2]) (by omega)).mono ?_
  rintro e w4 ⟨rfl, hb4⟩
  have hk4 := kept_trans hk3 (below_new hb4)
  have HP4 := Lib.hid (HP3.out.below (below_new hb4))
  clear hb4 hk3
  go_wp2_with fail
  refine (lv_from ((w4.alloc (.cells #[.int .u64 0, .int .u64 1] 23)).alloc (.cells #[.int .u64 5, .int .u64 7] 23)) (some ⟨w4.heap.size, 0, none⟩) (some ⟨w4.heap.size + 1, 0, none⟩) ?_ ?_).mono ?_
  · exact ((rd_news w4 [0, 1]).below ((Below.refl _ _).alloc (Nat.le_refl _) _)).more (by simp)
  · have h := rd_news (w4.alloc (.cells #[.int .u64 0, .int .u64 1] 23)) [5, 7]
    rwa [show (w4.alloc (.cells #[.int .u64 0, .int .u64 1] 23)).heap.size = w4.heap.size + 1 by simp] at h
  rintro e w5 ⟨⟨A5, c5, rfl, hp5⟩, hb5⟩
  have hk5 := kept_trans hk4 (below_new (below_new hb5))
  have HP5 := Lib.hid (HP4.out.below (below_new (below_new hb5)))
  have HQ5 := Lib.hid hp5
  clear hp5 hb5 hk4
  go_wp2_with fail
  refine (lv_same (w5.alloc (.cells #[.int .u64 5, .int .u64 2] 23)) A5 (some ⟨w5.heap.size, 0, none⟩) 2 c5 2 [5, 2] (HQ5.out.new _) (rd_news w5 [5, 2]) (by omega)).mono ?_
  rintro e w6 ⟨rfl, hb6⟩
  have hk6 := kept_trans hk5 (below_new hb6)
  have HP6 := Lib.hid (HP5.out.below (below_new hb6))
  clear hb6 hk5
  go_wp2_with fail
  refine (lv_eval w6 A1 c1 HP6.out).mono ?_
  rintro e w7 ⟨rfl, hb7⟩
  have hk7 := kept_trans hk6 hb7
  clear hb7 hk6
  go_wp2
  go_ret
  exact ⟨rfl, hk7⟩
end Go.Proofs.Ytalljoneflepiaa
