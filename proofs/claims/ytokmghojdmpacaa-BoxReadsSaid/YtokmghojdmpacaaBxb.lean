/-
  Package box: what a closure seals, and Make: the box of the document; what was there is left as it was. Numbers of 64 bits.
-/
import Derived.Test.YtokmghojdmpacaaBxa
import Derived.Deep.RegionHeld3
namespace Go.Proofs.Ytokmghojdmpacaa
open Go.RowKit

theorem fadd_b (a b : Nat) (w : World) (ha : a < 18446744073709551616) (hb : b < 18446744073709551616) :
    Calls Try.prog 34 #[.int .u64 a, .int .u64 b] w fun e w' => e = .returned (.int .u64 (Fld.add a b : Nat)) ∧ Below w.heap.size w w' :=
  (add_any a b w ha hb).mono fun _ _ ⟨h, e⟩ => ⟨h, e ▸ Below.refl _ _⟩

theorem tag_at (k b t B : Nat) (w : World) (hk : k < 18446744073709551616) (hb : b < 18446744073709551616) (ht : t < 18446744073709551616) (hB : Blk w B 22 #[.int .u64 (k : Int), .int .u64 (b : Int), .int .u64 (t : Int)]) :
    Calls Try.prog 35 #[.string ⟨#[116, 97, 103]⟩, .slice (some ⟨B, 0, none⟩) 3 3] w fun e w' => e = .returned (.int .u64 (Bx.tag k b t : Nat)) ∧ Below w.heap.size w w' :=
  of_any ⟨#[116, 97, 103]⟩ _ 3 3 [k, b, t] w (by decide) rfl (by omega) (by
    intro x hx
    simp only [List.mem_cons, List.not_mem_nil, or_false] at hx
    rcases hx with rfl | rfl | rfl <;> assumption) (Bx.rd_blk hB)

set_option maxRecDepth 100000 in
set_option maxHeartbeats 2000000 in
theorem sealed_any (k v t e Bv Bt Be : Nat) (w : World) (hk : k < 18446744073709551616) (hv : v < 18446744073709551616) (ht : t < 18446744073709551616)
    (hBv : Bv < w.heap.size) (hBt : Bt < w.heap.size) (hBe : Be < w.heap.size)
    (cv : w.cell? ⟨Bv, 0, none⟩ = some (.int .u64 v)) (ct : w.cell? ⟨Bt, 0, none⟩ = some (.int .u64 t)) (ce : w.cell? ⟨Be, 0, none⟩ = some (.int .u64 e)) :
    Calls Try.prog 33 #[.int .u64 k, .pointer (some ⟨Bv, 0, none⟩), .pointer (some ⟨Bt, 0, none⟩), .pointer (some ⟨Be, 0, none⟩)] w fun r w' =>
      r = .returned (.agg #[.int .u64 (t : Int), .int .u64 (e : Int), .int .u64 (Fld.add v (Bx.mask k) : Nat), .int .u64 (Bx.tag k (Fld.add v (Bx.mask k)) t : Nat)]) ∧ Below w.heap.size w w' := by
  have hm := Bx.mask_lt k
  have HM := Lib.hid (fun W => mask_any k W hk)
  have ha := fun W => fadd_b v (Bx.mask k) W hv (by omega)
  have hbl := Fld.add_lt v (Bx.mask k)
  have hT := fun W B => tag_at k (Fld.add v (Bx.mask k)) t B W hk (by omega) ht
  obtain ⟨m, hm'⟩ : ∃ m, m = Bx.mask k := ⟨_, rfl⟩
  rw [← hm'] at HM ha hm hbl hT ⊢
  obtain ⟨b, hb⟩ : ∃ b, b = Fld.add v m := ⟨_, rfl⟩
  rw [← hb] at ha hbl hT ⊢
  obtain ⟨g, hg⟩ : ∃ g, g = Bx.tag k b t := ⟨_, rfl⟩
  rw [← hg] at hT ⊢
  have HA := Lib.hid ha
  have HT := Lib.hid hT
  clear ha hT hb hg hm'
  have c0v := cell_alloc_l (.cells #[.int .u64 0, .int .u64 0, .int .u64 0, .int .u64 0] 25) cv
  have c0t := cell_alloc_l (.cells #[.int .u64 0, .int .u64 0, .int .u64 0, .int .u64 0] 25) ct
  have c0e := cell_alloc_l (.cells #[.int .u64 0, .int .u64 0, .int .u64 0, .int .u64 0] 25) ce
  have hR0 := blk_new w 25 #[.int .u64 0, .int .u64 0, .int .u64 0, .int .u64 0]
  have hk0 : Below w.heap.size w (w.alloc (.cells #[.int .u64 0, .int .u64 0, .int .u64 0, .int .u64 0] 25)) := (Below.refl _ w).alloc (Nat.le_refl _) _
  have hs0 : (w.alloc (.cells #[.int .u64 0, .int .u64 0, .int .u64 0, .int .u64 0] 25)).heap.size = w.heap.size + 1 := by simp
  obtain ⟨w0, hw0⟩ : ∃ w0, w0 = w.alloc (.cells #[.int .u64 0, .int .u64 0, .int .u64 0, .int .u64 0] 25) := ⟨_, rfl⟩
  go_enter Try.func33, Try.ntmps33
  go_wp2_with fail
  rw [← hw0] at c0v c0t c0e hR0 hk0 hs0 ⊢
  clear hw0 cv ct ce
  go_region_held3 (fun w' : World => w'.cell? ⟨Bv, 0, none⟩ = some (.int .u64 (v : Int)))
    ((first | exact c0v | exact c1v | exact c2v))
    (first
      | (go_at_call 27; ((with_reducible refine (HM.out _).mono ?_); rintro e w1 ⟨rfl, hb1⟩; have c1v := (hb1.cell (p := ⟨Bv, 0, none⟩) (by first | (show Bv < w0.heap.size; omega))).trans c0v))
      | (go_at_call 34; ((with_reducible refine (HA.out _).mono ?_); rintro e w2 ⟨rfl, hb2⟩; have c2v := (hb2.cell (p := ⟨Bv, 0, none⟩) (by have := hb1.size; have : w0.drew.heap.size = w0.heap.size := rfl; show Bv < w1.heap.size; omega)).trans c1v)))
  have h02 : Below w0.heap.size w0 w2 := kept_trans (below_of_drew hb1) hb2
  have c2t := (h02.cell (p := ⟨Bt, 0, none⟩) (by show Bt < w0.heap.size; omega)).trans c0t
  have c2e := (h02.cell (p := ⟨Be, 0, none⟩) (by show Be < w0.heap.size; omega)).trans c0e
  have hR2 := hR0.below h02 (by omega)
  have hk2 : Below w.heap.size w w2 := hk0.trans (h02.mono (by omega))
  have hs2 := h02.size
  clear hb1 hb2 c0v c0t c0e c1v c2v h02 hR0 hk0
  have k1 : w2.drew.cell? ⟨Bt, 0, none⟩ = some (.int .u64 (t : Int)) ∧ w2.drew.cell? ⟨Be, 0, none⟩ = some (.int .u64 (e : Int)) := ⟨c2t, c2e⟩
  have k2 : (w2.alloc (.cells #[.int .u64 (k : Int), .int .u64 (b : Int), .int .u64 (t : Int)] 22)).drew.cell? ⟨Bt, 0, none⟩ = some (.int .u64 (t : Int)) ∧ (w2.alloc (.cells #[.int .u64 (k : Int), .int .u64 (b : Int), .int .u64 (t : Int)] 22)).drew.cell? ⟨Be, 0, none⟩ = some (.int .u64 (e : Int)) := ⟨cell_alloc_l _ c2t, cell_alloc_l _ c2e⟩
  go_wp2_with fail
  go_region_held3 (fun w' : World => w'.cell? ⟨Bt, 0, none⟩ = some (.int .u64 (t : Int)) ∧ w'.cell? ⟨Be, 0, none⟩ = some (.int .u64 (e : Int)))
    ((first | with_reducible exact k1 | with_reducible exact k2 | with_reducible exact k3 | with_reducible exact k4))
    (first
      | (go_at_call 35; have q := HT.out (w2.alloc (.cells #[.int .u64 (k : Int), .int .u64 (b : Int), .int .u64 (t : Int)] 22)).drew w2.heap.size (blk_new w2 22 _); ((with_reducible refine q.mono ?_); clear q; rintro r w3 ⟨rfl, hb3'⟩; have hb3 := Bx.below_new (below_of_drew hb3'); clear hb3'; have hR3 := hR2.below hb3 (by omega); have k3 := And.intro ((hb3.cell (p := ⟨Bt, 0, none⟩) (by show Bt < w2.heap.size; omega)).trans c2t) ((hb3.cell (p := ⟨Be, 0, none⟩) (by show Be < w2.heap.size; omega)).trans c2e); have k4 : ((((w3.setCell ⟨w.heap.size, 0, none⟩ (.int .u64 (t : Int))).setCell ⟨w.heap.size, 1, none⟩ (.int .u64 (e : Int))).setCell ⟨w.heap.size, 2, none⟩ (.int .u64 (b : Int))).setCell ⟨w.heap.size, 3, none⟩ (.int .u64 (g : Int))).cell? ⟨Bt, 0, none⟩ = some (.int .u64 (t : Int)) ∧ ((((w3.setCell ⟨w.heap.size, 0, none⟩ (.int .u64 (t : Int))).setCell ⟨w.heap.size, 1, none⟩ (.int .u64 (e : Int))).setCell ⟨w.heap.size, 2, none⟩ (.int .u64 (b : Int))).setCell ⟨w.heap.size, 3, none⟩ (.int .u64 (g : Int))).cell? ⟨Be, 0, none⟩ = some (.int .u64 (e : Int)) := ⟨Bx.cell_set4 k3.1 (by omega) _ _ _ _, Bx.cell_set4 k3.2 (by omega) _ _ _ _⟩; have r0 := hR3.cell 0; have r1 := hR3.cell 1; have r2 := hR3.cell 2; have r3 := hR3.cell 3; have f0 := hR3.frozen 0; have f1 := hR3.frozen 1; have f2 := hR3.frozen 2; have f3 := hR3.frozen 3)))
  have hs3 := hb3.size
  have hR4 := Bx.blk_set4 hR3 (.int .u64 (t : Int)) (.int .u64 (e : Int)) (.int .u64 (b : Int)) (.int .u64 (g : Int))
  have hk4 := (hk2.trans (hb3.mono (by omega))).trans (Bx.below_set4 (w := w3) (R := w.heap.size) (n := w.heap.size) (.int .u64 (t : Int)) (.int .u64 (e : Int)) (.int .u64 (b : Int)) (.int .u64 (g : Int)) (Nat.le_refl _) (by omega))
  clear r0 r1 r2 r3 f0 f1 f2 f3 k3 k4 hb3 hR3 k1 k2
  obtain ⟨w4, hw4⟩ : ∃ w4, w4 = Bx.set4 w3 w.heap.size (.int .u64 (t : Int)) (.int .u64 (e : Int)) (.int .u64 (b : Int)) (.int .u64 (g : Int)) := ⟨_, rfl⟩
  rw [← hw4] at hR4 hk4
  unfold Bx.set4 at hw4
  rw [← hw4]
  clear hw4
  have r0 := hR4.cell 0
  have r1 := hR4.cell 1
  have r2 := hR4.cell 2
  have r3 := hR4.cell 3
  go_wp2
  refine bodyPost_ret (v := .agg #[.int .u64 (t : Int), .int .u64 (e : Int), .int .u64 (b : Int), .int .u64 (g : Int)]) (by simp [results, Try.results33, go_sem, r0, r1, r2, r3]) rfl ⟨rfl, hk4⟩

/-- The three variables that a closure has caught. -/
def Cl (w : World) (Bv Bt Be v t e : Nat) : Prop :=
  Bv < w.heap.size ∧ Bt < w.heap.size ∧ Be < w.heap.size ∧ w.cell? ⟨Bv, 0, none⟩ = some (.int .u64 v) ∧ w.cell? ⟨Bt, 0, none⟩ = some (.int .u64 t) ∧ w.cell? ⟨Be, 0, none⟩ = some (.int .u64 e)
theorem Cl.below {w w' : World} {Bv Bt Be v t e : Nat} (h : Cl w Bv Bt Be v t e) (hb : Below w.heap.size w w') : Cl w' Bv Bt Be v t e := by
  obtain ⟨h1, h2, h3, c1, c2, c3⟩ := h
  have hs := hb.size
  exact ⟨by omega, by omega, by omega, (hb.cell (p := ⟨Bv, 0, none⟩) h1).trans c1, (hb.cell (p := ⟨Bt, 0, none⟩) h2).trans c2, (hb.cell (p := ⟨Be, 0, none⟩) h3).trans c3⟩
theorem Cl.call {w : World} {Bv Bt Be v t e : Nat} (h : Cl w Bv Bt Be v t e) (k : Nat) (hk : k < 18446744073709551616) (hv : v < 18446744073709551616) (ht : t < 18446744073709551616) :
    Calls Try.prog 33 #[.int .u64 k, .pointer (some ⟨Bv, 0, none⟩), .pointer (some ⟨Bt, 0, none⟩), .pointer (some ⟨Be, 0, none⟩)] w fun r w' =>
      r = .returned (.agg #[.int .u64 (t : Int), .int .u64 (e : Int), .int .u64 (Fld.add v (Bx.mask k) : Nat), .int .u64 (Bx.tag k (Fld.add v (Bx.mask k)) t : Nat)]) ∧ Below w.heap.size w w' :=
  sealed_any k v t e Bv Bt Be w hk hv ht h.1 h.2.1 h.2.2.1 h.2.2.2.1 h.2.2.2.2.1 h.2.2.2.2.2

theorem sealing_new (t e v : Nat) (w : World) :
    Calls Try.prog 24 #[.int .u64 t, .int .u64 e, .int .u64 v] w fun r w' =>
      r = .returned (.func (.func 33) #[] #[.pointer (some ⟨w.heap.size + 2, 0, none⟩), .pointer (some ⟨w.heap.size, 0, none⟩), .pointer (some ⟨w.heap.size + 1, 0, none⟩)]) ∧
        w' = ((w.alloc (.cells #[.int .u64 t] 22)).alloc (.cells #[.int .u64 e] 22)).alloc (.cells #[.int .u64 v] 22) := by
  go_enter Try.func24, Try.ntmps24
  go_wp2
  go_ret
  exact ⟨rfl, rfl⟩
theorem sealing_any (t e v : Nat) (w : World) :
    Calls Try.prog 24 #[.int .u64 t, .int .u64 e, .int .u64 v] w fun r w' =>
      (∃ Bv Bt Be, r = .returned (.func (.func 33) #[] #[.pointer (some ⟨Bv, 0, none⟩), .pointer (some ⟨Bt, 0, none⟩), .pointer (some ⟨Be, 0, none⟩)]) ∧ Cl w' Bv Bt Be v t e) ∧ Below w.heap.size w w' := by
  refine (sealing_new t e v w).mono ?_
  rintro r w' ⟨rfl, rfl⟩
  have h1 := (blk_new w 22 #[.int .u64 (t : Int)])
  have h2 := (blk_new (w.alloc (.cells #[.int .u64 (t : Int)] 22)) 22 #[.int .u64 (e : Int)])
  have h3 := (blk_new ((w.alloc (.cells #[.int .u64 (t : Int)] 22)).alloc (.cells #[.int .u64 (e : Int)] 22)) 22 #[.int .u64 (v : Int)])
  have s1 : (w.alloc (.cells #[.int .u64 (t : Int)] 22)).heap.size = w.heap.size + 1 := by simp
  have s2 : ((w.alloc (.cells #[.int .u64 (t : Int)] 22)).alloc (.cells #[.int .u64 (e : Int)] 22)).heap.size = w.heap.size + 2 := by simp
  rw [s1] at h2
  rw [s2] at h3
  have h1' := blk_alloc (blk_alloc h1 (.cells #[.int .u64 (e : Int)] 22)) (.cells #[.int .u64 (v : Int)] 22)
  have h2' := blk_alloc h2 (.cells #[.int .u64 (v : Int)] 22)
  exact ⟨⟨_, _, _, rfl, h3.lt, h1'.lt, h2'.lt, h3.cell 0, h1'.cell 0, h2'.cell 0⟩, (((Below.refl _ w).alloc (Nat.le_refl _) _).alloc (by simp) _).alloc (by simp; omega) _⟩

set_option maxRecDepth 100000 in
set_option maxHeartbeats 2000000 in
theorem make_new (t o v : Nat) (w : World) (ht : t < 18446744073709551616) (ho : o < 18446744073709551616) (hv : v < 18446744073709551616) :
    Calls Try.prog 14 #[.int .u64 t, .int .u64 o, .int .u64 v] w fun r w' =>
      r = .returned (.agg #[.int .u64 (t : Int), .int .u64 (Bx.pub o : Nat), .int .u64 (Fld.add v (Bx.mask (Fld.pow t o)) : Nat), .int .u64 (Bx.tag (Fld.pow t o) (Fld.add v (Bx.mask (Fld.pow t o))) t : Nat)]) ∧ Below w.heap.size w w' := by
  have hk := Fld.pow_lt t o
  have HP := Lib.hid (fun W => pub_any o W ho)
  have HW := Lib.hid (fun W => pow_any t o W ht ho)
  obtain ⟨k, hk'⟩ : ∃ k, k = Fld.pow t o := ⟨_, rfl⟩
  rw [← hk'] at HW hk ⊢
  obtain ⟨e, he⟩ : ∃ e, e = Bx.pub o := ⟨_, rfl⟩
  rw [← he] at HP ⊢
  have HC := Lib.hid (fun (W : World) (Bv Bt Be : Nat) (h : Cl W Bv Bt Be v t e) => h.call k (by omega) hv ht)
  obtain ⟨b, hb⟩ : ∃ b, b = Fld.add v (Bx.mask k) := ⟨_, rfl⟩
  rw [← hb] at HC ⊢
  obtain ⟨g, hg⟩ : ∃ g, g = Bx.tag k b t := ⟨_, rfl⟩
  rw [← hg] at HC ⊢
  clear hb hg hk' he
  have hR0 := blk_new w 25 #[.int .u64 0, .int .u64 0, .int .u64 0, .int .u64 0]
  have hk0 : Below w.heap.size w (w.alloc (.cells #[.int .u64 0, .int .u64 0, .int .u64 0, .int .u64 0] 25)) := (Below.refl _ w).alloc (Nat.le_refl _) _
  have hs0 : (w.alloc (.cells #[.int .u64 0, .int .u64 0, .int .u64 0, .int .u64 0] 25)).heap.size = w.heap.size + 1 := by simp
  obtain ⟨w0, hw0⟩ : ∃ w0, w0 = w.alloc (.cells #[.int .u64 0, .int .u64 0, .int .u64 0, .int .u64 0] 25) := ⟨_, rfl⟩
  go_enter Try.func14, Try.ntmps14
  go_wp2_with fail
  rw [← hw0] at hR0 hk0 hs0 ⊢
  clear hw0
  refine (HP.out _).mono ?_
  rintro r w1 ⟨rfl, hb1⟩
  go_wp2_with fail
  refine (sealing_any t e v w1).mono ?_
  rintro r w2 ⟨⟨Bv, Bt, Be, rfl, hcl⟩, hb2⟩
  have HCL := Lib.hid hcl
  clear hcl
  go_wp2_with fail
  refine (HW.out _).mono ?_
  rintro r w3 ⟨rfl, hb3⟩
  have hc := HC.out w3 _ _ _ (HCL.out.below hb3)
  have h03 : Below w0.heap.size w0 w3 := kept_trans (kept_trans hb1 hb2) hb3
  have hR3 := hR0.below h03 (by omega)
  have hk3 : Below w.heap.size w w3 := hk0.trans (h03.mono (by omega))
  have hs3 := h03.size
  have HCC := Lib.hid hc
  clear hb1 hb2 hb3 hR0 hk0 h03 hc HCL
  go_wp2_with fail
  refine (HCC.out).mono ?_
  rintro r w4 ⟨rfl, hb4⟩
  have hs4 := hb4.size
  have hR4 := hR3.below hb4 (by omega)
  have hk4 : Below w.heap.size w w4 := hk3.trans (hb4.mono (by omega))
  have r0 := hR4.cell 0
  have r1 := hR4.cell 1
  have r2 := hR4.cell 2
  have r3 := hR4.cell 3
  have f0 := hR4.frozen 0
  have f1 := hR4.frozen 1
  have f2 := hR4.frozen 2
  have f3 := hR4.frozen 3
  have hR5 := Bx.blk_set4 hR4 (.int .u64 (t : Int)) (.int .u64 (e : Int)) (.int .u64 (b : Int)) (.int .u64 (g : Int))
  have hk5 := hk4.trans (Bx.below_set4 (w := w4) (R := w.heap.size) (n := w.heap.size) (.int .u64 (t : Int)) (.int .u64 (e : Int)) (.int .u64 (b : Int)) (.int .u64 (g : Int)) (Nat.le_refl _) (by omega))
  have HR5 := Lib.hid hR5
  have HK5 := Lib.hid hk5
  clear hR5 hk5 hb4 hR4 hk4 hR3 hk3
  go_wp2
  have c0 := HR5.out.cell 0
  have c1 := HR5.out.cell 1
  have c2 := HR5.out.cell 2
  have c3 := HR5.out.cell 3
  unfold Bx.set4 at c0 c1 c2 c3
  refine bodyPost_ret (v := .agg #[.int .u64 (t : Int), .int .u64 (e : Int), .int .u64 (b : Int), .int .u64 (g : Int)]) (by simp [results, Try.results14, go_sem, c0, c1, c2, c3]) rfl ⟨rfl, HK5.out⟩

end Go.Proofs.Ytokmghojdmpacaa
