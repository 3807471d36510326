/-
  BoxTurned: a box of which a number is another one: the walk, over natural numbers. No condition.
-/
import Derived.Test.YtokmghojdmpacaaBxg
namespace Go.Proofs.Ytokmghojdmpacaa
open Go.RowKit

theorem around_v (z : Int) (k : Nat) (w : World) (h1 : -9223372036854775808 ≤ z) (h2 : z ≤ 9223372036854775807) (hk : 0 < k) (hk2 : k ≤ 1000000) :
    Calls Try.prog 17 #[.int .i64 z, .int .i64 (k : Int)] w fun e w' => (∃ r : Nat, r < k ∧ e = .returned (.int .i64 (r : Int))) ∧ Below w.heap.size w w' :=
  (around_any z k w h1 h2 hk hk2).mono fun _ _ ⟨r, hr, h, e⟩ => ⟨⟨r, hr, h⟩, e ▸ Below.refl _ _⟩

/-! ### one number of a box in a variable is another one -/
theorem In4.kept {w : World} {R R' i t e b g : Nat} {u : Value} (h : In4 w R t e b g) (hR : R ≠ R') : In4 (w.setCell ⟨R', i, none⟩ u) R t e b g :=
  ⟨Nat.lt_of_lt_of_le h.1 (by simp [World.setCell]), (Below.heap_setCell w ⟨R', i, none⟩ u R hR).trans h.2⟩
theorem In4.set0 {w : World} {R t e b g : Nat} (h : In4 w R t e b g) (y : Nat) : In4 (w.setCell ⟨R, 0, none⟩ (.int .u64 (y : Int))) R y e b g :=
  ⟨Nat.lt_of_lt_of_le h.1 (by simp [World.setCell]), h.2.set_ 0 (.int .u64 (y : Int))⟩
theorem In4.set1 {w : World} {R t e b g : Nat} (h : In4 w R t e b g) (y : Nat) : In4 (w.setCell ⟨R, 1, none⟩ (.int .u64 (y : Int))) R t y b g :=
  ⟨Nat.lt_of_lt_of_le h.1 (by simp [World.setCell]), h.2.set_ 1 (.int .u64 (y : Int))⟩
theorem In4.set2 {w : World} {R t e b g : Nat} (h : In4 w R t e b g) (y : Nat) : In4 (w.setCell ⟨R, 2, none⟩ (.int .u64 (y : Int))) R t e y g :=
  ⟨Nat.lt_of_lt_of_le h.1 (by simp [World.setCell]), h.2.set_ 2 (.int .u64 (y : Int))⟩
theorem In4.set3 {w : World} {R t e b g : Nat} (h : In4 w R t e b g) (y : Nat) : In4 (w.setCell ⟨R, 3, none⟩ (.int .u64 (y : Int))) R t e b y :=
  ⟨Nat.lt_of_lt_of_le h.1 (by simp [World.setCell]), h.2.set_ 3 (.int .u64 (y : Int))⟩
theorem below_set {w0 w : World} {R n i : Nat} {u : Value} (h : Below n w0 w) (hn : n ≤ R) (hR : R < w.heap.size) : Below n w0 (w.setCell ⟨R, i, none⟩ u) :=
  h.trans (below_only (only_set (only_refl w _) i u) hn (by omega))

/-- What a box that was turned tells. -/
theorem Bx.turned_body {a o v e b g : Nat} (h : Bx.Mk (Bx.pub a) o v e b g) (y : Nat) (hy : y < 2305843009213693951) (hn : y ≠ b) : Bx.opn a (Bx.pub a) e y g = (0, 21) := by
  unfold Bx.opn
  have hb := h.lt.2.1
  rw [if_pos rfl, if_neg]
  rw [h.2.2, h.1, Bx.same_key, Bx.tag_body, Bx.small hb, Bx.small hy]
  exact fun q => hn q.symm
theorem Bx.turned_tag {a o v e b g : Nat} (h : Bx.Mk (Bx.pub a) o v e b g) (y : Nat) (hn : y ≠ g) : Bx.opn a (Bx.pub a) e b y = (0, 21) := by
  unfold Bx.opn
  rw [if_pos rfl, if_neg]
  rw [h.1, Bx.same_key, ← h.2.2]
  exact hn
theorem Bx.turned_eph {a o v e b g : Nat} (h : Bx.Mk (Bx.pub a) o v e b g) (hv : v < 2305843009213693951) (y : Nat) : Bx.opn a (Bx.pub a) y b g = (0, 21) ∨ Bx.opn a (Bx.pub a) y b g = (v, 0) := by
  unfold Bx.opn
  rw [if_pos rfl]
  by_cases hg : g = Bx.tag (Fld.pow y a) b (Bx.pub a)
  · right
    have hk : Fld.pow y a = Fld.pow (Bx.pub a) o := by
      have h1 := hg.symm.trans h.2.2
      rw [Bx.tag_key, Bx.small (Fld.pow_lt _ _), Bx.small (Fld.pow_lt _ _)] at h1
      exact h1
    rw [if_pos hg, hk, h.2.1, Bx.sub_add v _ hv]
  · left
    rw [if_neg hg]

set_option maxRecDepth 100000 in
set_option maxHeartbeats 4000000 in
theorem turned_walk (s once v : Nat) (which : Int) (x : Nat) (w : World) (hs : s < 18446744073709551616) (ho : once < 18446744073709551616) (hw1 : -9223372036854775808 ≤ which) (hw2 : which ≤ 9223372036854775807) :
    Calls Try.prog 6 #[.int .u64 s, .int .u64 once, .int .u64 v, .int .i64 which, .int .u64 x] w fun e w' => e = .returned (.bool true) ∧ Below w.heap.size w w' := by
  have k0 : Below w.heap.size w w := Below.refl _ _
  go_enter Try.func6, Try.ntmps6
  go_wp2_with fail
  refine (sec_v s _ hs).mono ?_
  rintro r w1 ⟨⟨a, rfl, ha1, ha2⟩, hb1⟩
  have k1 := kept_trans k0 hb1
  clear hb1 k0
  go_wp2_with fail
  refine (num_v v _).mono ?_
  rintro r w2 ⟨⟨n, rfl, hn⟩, hb2⟩
  have k2 := kept_trans k1 hb2
  clear hb2 k1
  go_wp2_with fail
  refine (pub_v a _ ha2).mono ?_
  rintro r w3 ⟨rfl, hb3⟩
  have k3 := kept_trans k2 hb3
  clear hb3 k2
  go_wp2_with fail
  refine (sec_v once _ ho).mono ?_
  rintro r w4 ⟨⟨o, rfl, ho1, ho2⟩, hb4⟩
  have k4 := kept_trans k3 hb4
  clear hb4 k3
  go_wp2_with fail
  refine (make_v (Bx.pub a) o n _ (Bx.pub_w a) (by omega) (by omega)).mono ?_
  rintro r w5 ⟨⟨e, b, g, rfl, hm⟩, hb5⟩
  have k5 := kept_trans k4 hb5
  clear hb5 k4
  have HM := Lib.hid hm
  have hl := hm.lt
  have HB := Lib.hid (Bx.turned_body hm)
  have HT := Lib.hid (Bx.turned_tag hm)
  have HE := Lib.hid (Bx.turned_eph hm hn)
  have HO := Lib.hid (Bx.mk_open hn hm)
  have HOP := Lib.hid (fun (e b g : Nat) (x y : Int) (W : World) (he : e < 18446744073709551616) (hb : b < 2305843009213693951) (hx : ((Bx.opn a (Bx.pub a) e b g).1 : Int) = x) (hy : ((Bx.opn a (Bx.pub a) e b g).2 : Int) = y) => open_is a (Bx.pub a) e b g x y W (by omega) he hb hx hy)
  obtain ⟨p, hp⟩ : ∃ p, p = Bx.pub a := ⟨_, rfl⟩
  rw [← hp] at HM HB HT HE HO HOP ⊢
  clear hp hm HM
  have hX := (in4_new w5 p e b g).new (.cells #[.int .u64 (p : Int), .int .u64 (e : Int), .int .u64 (b : Int), .int .u64 (g : Int)] 25)
  have hY := in4_new (w5.alloc (.cells #[.int .u64 (p : Int), .int .u64 (e : Int), .int .u64 (b : Int), .int .u64 (g : Int)] 25)) p e b g
  rw [show (w5.alloc (.cells #[.int .u64 (p : Int), .int .u64 (e : Int), .int .u64 (b : Int), .int .u64 (g : Int)] 25)).heap.size = w5.heap.size + 1 by simp] at hY
  have HX := Lib.hid hX
  have HY := Lib.hid hY
  clear hX hY
  go_wp2_with fail
  refine (around_v which 3 _ hw1 hw2 (by omega) (by omega)).mono ?_
  rintro z w6 ⟨⟨r, hr, rfl⟩, hb6⟩
  have X6 := Lib.hid (HX.out.below hb6)
  have Y6 := Lib.hid (HY.out.below hb6)
  have k6 := kept_trans k5 (Bx.below_new (Bx.below_new hb6))
  have hle : w.heap.size ≤ w5.heap.size := k5.size
  have hd0 : Below w.heap.size w w := Below.refl _ _
  clear hb6 HX HY k5 hd0
  have hr3 : r = 0 ∨ r = 1 ∨ r = 2 := by omega
  clear hr
  rcases hr3 with rfl | rfl | rfl
  · go_wp2_with fail
    refine (num_v x _).mono ?_
    rintro r w7 ⟨⟨y, rfl, hy⟩, hb7⟩
    have k7 := kept_trans k6 hb7
    have X7 := Lib.hid (X6.out.below hb7)
    have Y7 := Lib.hid (Y6.out.below hb7)
    clear hb7 k6 X6 Y6
    have hYs := Y7.out.set2 y
    have hXs := X7.out.kept (R' := w5.heap.size + 1) (i := 2) (u := .int .u64 (y : Int)) (by omega)
    have ks := below_set (i := 2) (u := .int .u64 (y : Int)) k7 (by omega : w.heap.size ≤ w5.heap.size + 1) Y7.out.1
    have cy := Y7.out.2.cell 2
    have fy := Y7.out.2.frozen 2
    have HYs := Lib.hid hYs
    have HXs := Lib.hid hXs
    clear hYs hXs X7 Y7 k7
    by_cases hyb : y = b
    · subst hyb
      obtain ⟨y0, y1, y2, y3⟩ := HYs.out.at4
      go_wp2_with fail
      refine (HOP.out e y g n 0 _ (by omega) hy (by rw [HO.out]) (by rw [HO.out]; rfl)).mono ?_
      rintro z w8 ⟨rfl, hb8⟩
      have X8 := Lib.hid (HXs.out.below hb8)
      have Y8 := Lib.hid (HYs.out.below hb8)
      have k8 := kept_trans ks hb8
      clear hb8 HXs HYs ks y0 y1 y2 y3 cy fy
      obtain ⟨x0, x1, x2, x3⟩ := X8.out.at4
      obtain ⟨y0, y1, y2, y3⟩ := Y8.out.at4
      have hq1 := fun W => box_is p e y g p e y g true (Bx.alike_self _ _ _ _) W
      have hf1 := fun (W : World) (q1 q2 : Operand) => box_free .eql q1 q2 #[.int .u64 (p : Int), .int .u64 (e : Int), .int .u64 (y : Int), .int .u64 (g : Int)] #[.int .u64 (p : Int), .int .u64 (e : Int), .int .u64 (y : Int), .int .u64 (g : Int)] W
      go_wp2_with fail
      refine (lives6_any _).mono ?_
      rintro r w9 ⟨rfl, hb9⟩
      have k9 := kept_trans k8 hb9
      have X9 := Lib.hid (X8.out.below hb9)
      have Y9 := Lib.hid (Y8.out.below hb9)
      clear hb9 k8 X8 Y8 x0 x1 x2 x3 y0 y1 y2 y3
      go_wp2
      go_ret
      exact ⟨rfl, k9⟩
    · obtain ⟨y0, y1, y2, y3⟩ := HYs.out.at4
      go_wp2_with fail
      refine (HOP.out e y g 0 21 _ (by omega) hy (by rw [HB.out y hy hyb]; rfl) (by rw [HB.out y hy hyb]; rfl)).mono ?_
      rintro z w8 ⟨rfl, hb8⟩
      have X8 := Lib.hid (HXs.out.below hb8)
      have Y8 := Lib.hid (HYs.out.below hb8)
      have k8 := kept_trans ks hb8
      clear hb8 HXs HYs ks y0 y1 y2 y3 cy fy
      obtain ⟨x0, x1, x2, x3⟩ := X8.out.at4
      obtain ⟨y0, y1, y2, y3⟩ := Y8.out.at4
      have hq1 := fun W => box_is p e y g p e b g false (by unfold Bx.alike; exact decide_eq_false (fun q => hyb q.2.2.1)) W
      have hf1 := fun (W : World) (q1 q2 : Operand) => box_free .eql q1 q2 #[.int .u64 (p : Int), .int .u64 (e : Int), .int .u64 (y : Int), .int .u64 (g : Int)] #[.int .u64 (p : Int), .int .u64 (e : Int), .int .u64 (b : Int), .int .u64 (g : Int)] W
      go_wp2_with fail
      refine (lives6_any _).mono ?_
      rintro r w9 ⟨rfl, hb9⟩
      have k9 := kept_trans k8 hb9
      have X9 := Lib.hid (X8.out.below hb9)
      have Y9 := Lib.hid (Y8.out.below hb9)
      clear hb9 k8 X8 Y8 x0 x1 x2 x3 y0 y1 y2 y3
      go_wp2
      go_ret
      exact ⟨rfl, k9⟩
  · go_wp2_with fail
    refine (num_v x _).mono ?_
    rintro r w7 ⟨⟨y, rfl, hy⟩, hb7⟩
    have k7 := kept_trans k6 hb7
    have X7 := Lib.hid (X6.out.below hb7)
    have Y7 := Lib.hid (Y6.out.below hb7)
    clear hb7 k6 X6 Y6
    have hYs := Y7.out.set3 y
    have hXs := X7.out.kept (R' := w5.heap.size + 1) (i := 3) (u := .int .u64 (y : Int)) (by omega)
    have ks := below_set (i := 3) (u := .int .u64 (y : Int)) k7 (by omega : w.heap.size ≤ w5.heap.size + 1) Y7.out.1
    have cy := Y7.out.2.cell 3
    have fy := Y7.out.2.frozen 3
    have HYs := Lib.hid hYs
    have HXs := Lib.hid hXs
    clear hYs hXs X7 Y7 k7
    by_cases hyb : y = g
    · subst hyb
      obtain ⟨y0, y1, y2, y3⟩ := HYs.out.at4
      go_wp2_with fail
      refine (HOP.out e b y n 0 _ (by omega) hl.2.1 (by rw [HO.out]) (by rw [HO.out]; rfl)).mono ?_
      rintro z w8 ⟨rfl, hb8⟩
      have X8 := Lib.hid (HXs.out.below hb8)
      have Y8 := Lib.hid (HYs.out.below hb8)
      have k8 := kept_trans ks hb8
      clear hb8 HXs HYs ks y0 y1 y2 y3 cy fy
      obtain ⟨x0, x1, x2, x3⟩ := X8.out.at4
      obtain ⟨y0, y1, y2, y3⟩ := Y8.out.at4
      have hq1 := fun W => box_is p e b y p e b y true (Bx.alike_self _ _ _ _) W
      have hf1 := fun (W : World) (q1 q2 : Operand) => box_free .eql q1 q2 #[.int .u64 (p : Int), .int .u64 (e : Int), .int .u64 (b : Int), .int .u64 (y : Int)] #[.int .u64 (p : Int), .int .u64 (e : Int), .int .u64 (b : Int), .int .u64 (y : Int)] W
      go_wp2_with fail
      refine (lives6_any _).mono ?_
      rintro r w9 ⟨rfl, hb9⟩
      have k9 := kept_trans k8 hb9
      have X9 := Lib.hid (X8.out.below hb9)
      have Y9 := Lib.hid (Y8.out.below hb9)
      clear hb9 k8 X8 Y8 x0 x1 x2 x3 y0 y1 y2 y3
      go_wp2
      go_ret
      exact ⟨rfl, k9⟩
    · obtain ⟨y0, y1, y2, y3⟩ := HYs.out.at4
      go_wp2_with fail
      refine (HOP.out e b y 0 21 _ (by omega) hl.2.1 (by rw [HT.out y hyb]; rfl) (by rw [HT.out y hyb]; rfl)).mono ?_
      rintro z w8 ⟨rfl, hb8⟩
      have X8 := Lib.hid (HXs.out.below hb8)
      have Y8 := Lib.hid (HYs.out.below hb8)
      have k8 := kept_trans ks hb8
      clear hb8 HXs HYs ks y0 y1 y2 y3 cy fy
      obtain ⟨x0, x1, x2, x3⟩ := X8.out.at4
      obtain ⟨y0, y1, y2, y3⟩ := Y8.out.at4
      have hq1 := fun W => box_is p e b y p e b g false (by unfold Bx.alike; exact decide_eq_false (fun q => hyb q.2.2.2)) W
      have hf1 := fun (W : World) (q1 q2 : Operand) => box_free .eql q1 q2 #[.int .u64 (p : Int), .int .u64 (e : Int), .int .u64 (b : Int), .int .u64 (y : Int)] #[.int .u64 (p : Int), .int .u64 (e : Int), .int .u64 (b : Int), .int .u64 (g : Int)] W
      go_wp2_with fail
      refine (lives6_any _).mono ?_
      rintro r w9 ⟨rfl, hb9⟩
      have k9 := kept_trans k8 hb9
      have X9 := Lib.hid (X8.out.below hb9)
      have Y9 := Lib.hid (Y8.out.below hb9)
      clear hb9 k8 X8 Y8 x0 x1 x2 x3 y0 y1 y2 y3
      go_wp2
      go_ret
      exact ⟨rfl, k9⟩
  · go_wp2_with fail
    refine (num_v x _).mono ?_
    rintro r w7 ⟨⟨y, rfl, hy⟩, hb7⟩
    have k7 := kept_trans k6 hb7
    have X7 := Lib.hid (X6.out.below hb7)
    have Y7 := Lib.hid (Y6.out.below hb7)
    clear hb7 k6 X6 Y6
    have hYs := Y7.out.set1 y
    have hXs := X7.out.kept (R' := w5.heap.size + 1) (i := 1) (u := .int .u64 (y : Int)) (by omega)
    have ks := below_set (i := 1) (u := .int .u64 (y : Int)) k7 (by omega : w.heap.size ≤ w5.heap.size + 1) Y7.out.1
    have cy := Y7.out.2.cell 1
    have fy := Y7.out.2.frozen 1
    have HYs := Lib.hid hYs
    have HXs := Lib.hid hXs
    clear hYs hXs X7 Y7 k7
    by_cases hyb : y = e
    · subst hyb
      obtain ⟨y0, y1, y2, y3⟩ := HYs.out.at4
      go_wp2_with fail
      refine (HOP.out y b g n 0 _ (by omega) hl.2.1 (by rw [HO.out]) (by rw [HO.out]; rfl)).mono ?_
      rintro z w8 ⟨rfl, hb8⟩
      have X8 := Lib.hid (HXs.out.below hb8)
      have Y8 := Lib.hid (HYs.out.below hb8)
      have k8 := kept_trans ks hb8
      clear hb8 HXs HYs ks y0 y1 y2 y3 cy fy
      obtain ⟨x0, x1, x2, x3⟩ := X8.out.at4
      obtain ⟨y0, y1, y2, y3⟩ := Y8.out.at4
      have hq1 := fun W => box_is p y b g p y b g true (Bx.alike_self _ _ _ _) W
      have hf1 := fun (W : World) (q1 q2 : Operand) => box_free .eql q1 q2 #[.int .u64 (p : Int), .int .u64 (y : Int), .int .u64 (b : Int), .int .u64 (g : Int)] #[.int .u64 (p : Int), .int .u64 (y : Int), .int .u64 (b : Int), .int .u64 (g : Int)] W
      go_wp2_with fail
      refine (lives6_any _).mono ?_
      rintro r w9 ⟨rfl, hb9⟩
      have k9 := kept_trans k8 hb9
      have X9 := Lib.hid (X8.out.below hb9)
      have Y9 := Lib.hid (Y8.out.below hb9)
      clear hb9 k8 X8 Y8 x0 x1 x2 x3 y0 y1 y2 y3
      go_wp2
      go_ret
      exact ⟨rfl, k9⟩
    · have hde : ((y : Int) != (e : Int)) = true := by rw [bne_iff_ne]; omega
      rcases HE.out y with hE | hE
      · have HEE := Lib.hid hE
        clear hE
        obtain ⟨y0, y1, y2, y3⟩ := HYs.out.at4
        go_wp2_with fail
        refine (HOP.out y b g 0 21 _ (by omega) hl.2.1 (by rw [HEE.out]; rfl) (by rw [HEE.out]; rfl)).mono ?_
        rintro z w8 ⟨rfl, hb8⟩
        have X8 := Lib.hid (HXs.out.below hb8)
        have Y8 := Lib.hid (HYs.out.below hb8)
        have k8 := kept_trans ks hb8
        clear hb8 HXs HYs ks y0 y1 y2 y3 cy fy
        obtain ⟨x0, x1, x2, x3⟩ := X8.out.at4
        obtain ⟨y0, y1, y2, y3⟩ := Y8.out.at4
        have hq1 := fun W => box_is p y b g p e b g false (by unfold Bx.alike; exact decide_eq_false (fun q => hyb q.2.1)) W
        have hf1 := fun (W : World) (q1 q2 : Operand) => box_free .eql q1 q2 #[.int .u64 (p : Int), .int .u64 (y : Int), .int .u64 (b : Int), .int .u64 (g : Int)] #[.int .u64 (p : Int), .int .u64 (e : Int), .int .u64 (b : Int), .int .u64 (g : Int)] W
        go_wp2_with fail
        refine (lives6_any _).mono ?_
        rintro r w9 ⟨rfl, hb9⟩
        have k9 := kept_trans k8 hb9
        have X9 := Lib.hid (X8.out.below hb9)
        have Y9 := Lib.hid (Y8.out.below hb9)
        clear hb9 k8 X8 Y8 x0 x1 x2 x3 y0 y1 y2 y3
        go_wp2
        go_ret
        exact ⟨rfl, k9⟩
      · have HEE := Lib.hid hE
        clear hE
        obtain ⟨y0, y1, y2, y3⟩ := HYs.out.at4
        go_wp2_with fail
        refine (HOP.out y b g n 0 _ (by omega) hl.2.1 (by rw [HEE.out]) (by rw [HEE.out]; rfl)).mono ?_
        rintro z w8 ⟨rfl, hb8⟩
        have X8 := Lib.hid (HXs.out.below hb8)
        have Y8 := Lib.hid (HYs.out.below hb8)
        have k8 := kept_trans ks hb8
        clear hb8 HXs HYs ks y0 y1 y2 y3 cy fy
        obtain ⟨x0, x1, x2, x3⟩ := X8.out.at4
        obtain ⟨y0, y1, y2, y3⟩ := Y8.out.at4
        have hq1 := fun W => box_is p y b g p e b g false (by unfold Bx.alike; exact decide_eq_false (fun q => hyb q.2.1)) W
        have hf1 := fun (W : World) (q1 q2 : Operand) => box_free .eql q1 q2 #[.int .u64 (p : Int), .int .u64 (y : Int), .int .u64 (b : Int), .int .u64 (g : Int)] #[.int .u64 (p : Int), .int .u64 (e : Int), .int .u64 (b : Int), .int .u64 (g : Int)] W
        go_wp2_with fail
        refine (lives6_any _).mono ?_
        rintro r w9 ⟨rfl, hb9⟩
        have k9 := kept_trans k8 hb9
        have X9 := Lib.hid (X8.out.below hb9)
        have Y9 := Lib.hid (Y8.out.below hb9)
        clear hb9 k8 X8 Y8 x0 x1 x2 x3 y0 y1 y2 y3
        go_wp2
        go_ret
        exact ⟨rfl, k9⟩

end Go.Proofs.Ytokmghojdmpacaa
