/-
  Boxes: what Open tells; the reference's Make and Open tell the same. Numbers of 64 bits, a box's Body below the prime.
-/
import Derived.Test.YtokmghojdmpacaaBxc
namespace Go.Proofs.Ytokmghojdmpacaa
open Go.RowKit

theorem open_any (s t e b g : Nat) (w : World) (hs : s < 18446744073709551616) (he : e < 18446744073709551616) (hb : b < 2305843009213693951) :
    Calls Try.prog 18 #[.int .u64 s, .agg #[.int .u64 (t : Int), .int .u64 (e : Int), .int .u64 (b : Int), .int .u64 (g : Int)]] w fun r w' =>
      r = .returned (.tuple #[.int .u64 ((Bx.opn s t e b g).1 : Nat), .int .i64 ((Bx.opn s t e b g).2 : Nat)]) ∧ Below w.heap.size w w' := by
  by_cases h : t = Bx.pub s
  · refine (open_go s t e b g w hs h he hb _ rfl).mono ?_
    rintro r w' ⟨rfl, hk⟩
    refine ⟨?_, hk⟩
    unfold Bx.opn
    rw [if_pos h]
    by_cases h2 : g = Bx.tag (Fld.pow e s) b t
    · rw [decide_eq_true h2, if_pos h2]; rfl
    · rw [decide_eq_false h2, if_neg h2]; rfl
  · refine (open_key s t e b g w hs h).mono ?_
    rintro r w' ⟨rfl, hk⟩
    refine ⟨?_, hk⟩
    unfold Bx.opn
    rw [if_neg h]; rfl

theorem rtag_at (k b t B : Nat) (w : World) (hB : Blk w B 22 #[.int .u64 (k : Int), .int .u64 (b : Int), .int .u64 (t : Int)]) :
    Calls Try.prog 26 #[.string ⟨#[116, 97, 103]⟩, .slice (some ⟨B, 0, none⟩) 3 3] w fun e w' => e = .returned (.int .u64 (Bx.tag k b t : Nat)) ∧ Below w.heap.size w w' :=
  rof_any ⟨#[116, 97, 103]⟩ [k, b, t] _ 3 3 w (by decide) rfl (by omega) (Bx.rd_blk hB)
theorem rmask_at (k B : Nat) (w : World) (hB : Blk w B 22 #[.int .u64 (k : Int)]) :
    Calls Try.prog 26 #[.string ⟨#[109, 97, 115, 107]⟩, .slice (some ⟨B, 0, none⟩) 1 1] w fun e w' => e = .returned (.int .u64 (Bx.mask k : Nat)) ∧ Below w.heap.size w w' :=
  rof_any ⟨#[109, 97, 115, 107]⟩ [k] _ 1 1 w (by decide) rfl (by omega) (Bx.rd_blk hB)

set_option maxRecDepth 100000 in
set_option maxHeartbeats 2000000 in
theorem rmake_new (t o v : Nat) (w : World) (ho : o < 18446744073709551616) :
    Calls Try.prog 15 #[.int .u64 t, .int .u64 o, .int .u64 v] w fun r w' =>
      r = .returned (.agg #[.int .u64 (t : Int), .int .u64 (Bx.pub o : Nat), .int .u64 (Fld.add v (Bx.mask (Fld.pow t o)) : Nat), .int .u64 (Bx.tag (Fld.pow t o) (Fld.add v (Bx.mask (Fld.pow t o))) t : Nat)]) ∧ Below w.heap.size w w' := by
  have HP := Lib.hid (fun W => rpub_any o W ho)
  have HW := Lib.hid (fun W => rpow_any t o W ho)
  obtain ⟨k, hk'⟩ : ∃ k, k = Fld.pow t o := ⟨_, rfl⟩
  rw [← hk'] at HW ⊢
  obtain ⟨e, he⟩ : ∃ e, e = Bx.pub o := ⟨_, rfl⟩
  rw [← he] at HP ⊢
  have HM := Lib.hid (fun W B => rmask_at k B W)
  obtain ⟨m, hm⟩ : ∃ m, m = Bx.mask k := ⟨_, rfl⟩
  rw [← hm] at HM ⊢
  have HA := Lib.hid (fun W => radd_any v m W)
  obtain ⟨b, hb⟩ : ∃ b, b = Fld.add v m := ⟨_, rfl⟩
  rw [← hb] at HA ⊢
  have HT := Lib.hid (fun W B => rtag_at k b t B W)
  obtain ⟨g, hg⟩ : ∃ g, g = Bx.tag k b t := ⟨_, rfl⟩
  rw [← hg] at HT ⊢
  clear hb hg hk' he hm
  have hR0 := blk_new w 25 #[.int .u64 0, .int .u64 0, .int .u64 0, .int .u64 0]
  have hk0 : Below w.heap.size w (w.alloc (.cells #[.int .u64 0, .int .u64 0, .int .u64 0, .int .u64 0] 25)) := (Below.refl _ w).alloc (Nat.le_refl _) _
  have hs0 : (w.alloc (.cells #[.int .u64 0, .int .u64 0, .int .u64 0, .int .u64 0] 25)).heap.size = w.heap.size + 1 := by simp
  obtain ⟨w0, hw0⟩ : ∃ w0, w0 = w.alloc (.cells #[.int .u64 0, .int .u64 0, .int .u64 0, .int .u64 0] 25) := ⟨_, rfl⟩
  go_enter Try.func15, Try.ntmps15
  go_wp2_with fail
  rw [← hw0] at hR0 hk0 hs0 ⊢
  clear hw0
  refine (HW.out _).mono ?_
  rintro r w1 ⟨rfl, hb1⟩
  go_wp2_with fail
  refine (HP.out _).mono ?_
  rintro r w2 ⟨rfl, hb2⟩
  go_wp2_with fail
  refine (HM.out _ w2.heap.size (blk_new w2 22 _)).mono ?_
  rintro r w3 ⟨rfl, hb3⟩
  go_wp2_with fail
  refine (HA.out _).mono ?_
  rintro r w4 ⟨rfl, rfl⟩
  have h03 : Below w0.heap.size w0 w3 := kept_trans (kept_trans hb1 hb2) (Bx.below_new hb3)
  have hR3 := hR0.below h03 (by omega)
  have hk3 : Below w.heap.size w w3 := hk0.trans (h03.mono (by omega))
  have hs3 := h03.size
  clear hb1 hb2 hb3 hR0 hk0 h03
  go_wp2_with fail
  have s1 : (w3.alloc (.cells #[.int .u64 (t : Int), .int .u64 (e : Int), .int .u64 (b : Int), .int .u64 0] 25)).heap.size = w3.heap.size + 1 := by simp
  have hN := blk_new (w3.alloc (.cells #[.int .u64 (t : Int), .int .u64 (e : Int), .int .u64 (b : Int), .int .u64 0] 25)) 22 #[.int .u64 (k : Int), .int .u64 (b : Int), .int .u64 (t : Int)]
  rw [s1] at hN
  refine (HT.out _ (w3.heap.size + 1) hN).mono ?_
  rintro r w5 ⟨rfl, hb5⟩
  have s2 : ((w3.alloc (.cells #[.int .u64 (t : Int), .int .u64 (e : Int), .int .u64 (b : Int), .int .u64 0] 25)).alloc (.cells #[.int .u64 (k : Int), .int .u64 (b : Int), .int .u64 (t : Int)] 22)).heap.size = w3.heap.size + 2 := by simp
  have hb5' : Below w3.heap.size w3 w5 := Bx.below_new (Bx.below_new hb5)
  have hR5 := hR3.below hb5' (by omega)
  have hB5 := (blk_alloc (blk_new w3 25 #[.int .u64 (t : Int), .int .u64 (e : Int), .int .u64 (b : Int), .int .u64 0]) (.cells #[.int .u64 (k : Int), .int .u64 (b : Int), .int .u64 (t : Int)] 22)).below hb5 (by omega)
  have hk5 := hk3.trans (hb5'.mono (by omega))
  have hs5 := hb5'.size
  have hz5 := hb5.size
  rw [s2] at hz5
  have hB6 : Blk (w5.setCell ⟨w3.heap.size, 3, none⟩ (.int .u64 (g : Int))) w3.heap.size 25 #[.int .u64 (t : Int), .int .u64 (e : Int), .int .u64 (b : Int), .int .u64 (g : Int)] := hB5.set_ 3 (.int .u64 (g : Int))
  have hR6 : Blk (w5.setCell ⟨w3.heap.size, 3, none⟩ (.int .u64 (g : Int))) w.heap.size 25 #[.int .u64 0, .int .u64 0, .int .u64 0, .int .u64 0] :=
    (Below.heap_setCell w5 ⟨w3.heap.size, 3, none⟩ (.int .u64 (g : Int)) w.heap.size (by show w.heap.size ≠ w3.heap.size; omega)).trans hR5
  have hg6 : w5.grownBy (w5.setCell ⟨w3.heap.size, 3, none⟩ (.int .u64 (g : Int))) (some w3.heap.size) := only_set (only_refl _ _) 3 _
  have hk6 : Below w.heap.size w (w5.setCell ⟨w3.heap.size, 3, none⟩ (.int .u64 (g : Int))) := hk5.trans (below_only hg6 (by omega) (by omega))
  have hs6 := hg6.size
  have e3 := hB5.cell 3
  have q3 := hB5.frozen 3
  clear hb5 hb5' hR5 hB5 hk5 hk3 hR3 hN hg6
  have b0 := hB6.cell 0
  have b1 := hB6.cell 1
  have b2 := hB6.cell 2
  have b3 := hB6.cell 3
  have r0 := hR6.cell 0
  have r1 := hR6.cell 1
  have r2 := hR6.cell 2
  have r3 := hR6.cell 3
  have f0 := hR6.frozen 0
  have f1 := hR6.frozen 1
  have f2 := hR6.frozen 2
  have f3 := hR6.frozen 3
  have hR7 := Bx.blk_set4 hR6 (.int .u64 (t : Int)) (.int .u64 (e : Int)) (.int .u64 (b : Int)) (.int .u64 (g : Int))
  have hk7 := hk6.trans (Bx.below_set4 (w := w5.setCell ⟨w3.heap.size, 3, none⟩ (.int .u64 (g : Int))) (R := w.heap.size) (n := w.heap.size) (.int .u64 (t : Int)) (.int .u64 (e : Int)) (.int .u64 (b : Int)) (.int .u64 (g : Int)) (Nat.le_refl _) (by omega))
  have HR7 := Lib.hid hR7
  have HK7 := Lib.hid hk7
  clear hR7 hk7 hk6 hR6 hB6 s1 s2 hs6 hz5 hs5
  go_wp2
  have c0 := HR7.out.cell 0
  have c1 := HR7.out.cell 1
  have c2 := HR7.out.cell 2
  have c3 := HR7.out.cell 3
  unfold Bx.set4 at c0 c1 c2 c3
  refine bodyPost_ret (v := .agg #[.int .u64 (t : Int), .int .u64 (e : Int), .int .u64 (b : Int), .int .u64 (g : Int)]) (by simp [results, Try.results15, go_sem, c0, c1, c2, c3]) rfl ⟨rfl, HK7.out⟩

set_option maxRecDepth 100000 in
set_option maxHeartbeats 2000000 in
theorem ropen_key (s t e b g : Nat) (w : World) (hs : s < 18446744073709551616) (h : t ≠ Bx.pub s) :
    Calls Try.prog 19 #[.int .u64 s, .agg #[.int .u64 (t : Int), .int .u64 (e : Int), .int .u64 (b : Int), .int .u64 (g : Int)]] w fun r w' =>
      r = .returned (.tuple #[.int .u64 0, .int .i64 20]) ∧ Below w.heap.size w w' := by
  have HP := Lib.hid (fun W => rpub_any s W hs)
  obtain ⟨p, hp⟩ : ∃ p, p = Bx.pub s := ⟨_, rfl⟩
  rw [← hp] at HP h
  have hd : ((t : Int) != (p : Int)) = true := by rw [bne_iff_ne]; omega
  clear hp h
  have hR0 := blk_new w 25 #[.int .u64 (t : Int), .int .u64 (e : Int), .int .u64 (b : Int), .int .u64 (g : Int)]
  have hk0 : Below w.heap.size w (w.alloc (.cells #[.int .u64 (t : Int), .int .u64 (e : Int), .int .u64 (b : Int), .int .u64 (g : Int)] 25)) := (Below.refl _ w).alloc (Nat.le_refl _) _
  have hs0 : (w.alloc (.cells #[.int .u64 (t : Int), .int .u64 (e : Int), .int .u64 (b : Int), .int .u64 (g : Int)] 25)).heap.size = w.heap.size + 1 := by simp
  obtain ⟨w0, hw0⟩ : ∃ w0, w0 = w.alloc (.cells #[.int .u64 (t : Int), .int .u64 (e : Int), .int .u64 (b : Int), .int .u64 (g : Int)] 25) := ⟨_, rfl⟩
  go_enter Try.func19, Try.ntmps19
  go_wp2_with fail
  rw [← hw0] at hR0 hk0 hs0 ⊢
  clear hw0
  have k0 : At4 w0 w.heap.size t e b g := box_at hR0
  clear hR0
  have k1 := k0.1
  have k1' : w0.drew.cell? ⟨w.heap.size, 0, none⟩ = some (.int .u64 (t : Int)) := k1
  go_region_held3 (fun w' : World => w'.cell? ⟨w.heap.size, 0, none⟩ = some (.int .u64 (t : Int)))
    ((first | with_reducible exact k1 | with_reducible exact k1' | with_reducible exact k2))
    (first
      | (go_at_call 13; ((with_reducible refine (HP.out _).mono ?_); rintro r w1 ⟨rfl, hb1'⟩; have hb1 : Below w0.heap.size w0 w1 := below_of_drew hb1'; clear hb1'; have k2 := (hb1.cell (p := ⟨w.heap.size, 0, none⟩) (by show w.heap.size < w0.heap.size; omega)).trans k1)))
  go_wp2
  go_ret2
  exact ⟨rfl, hk0.trans (hb1.mono (by omega))⟩

set_option maxRecDepth 100000 in
set_option maxHeartbeats 4000000 in
theorem ropen_go (s t e b g : Nat) (w : World) (hs : s < 18446744073709551616) (h : t = Bx.pub s) (q : Bool) (hq : q = decide (g = Bx.tag (Fld.pow e s) b t)) :
    Calls Try.prog 19 #[.int .u64 s, .agg #[.int .u64 (t : Int), .int .u64 (e : Int), .int .u64 (b : Int), .int .u64 (g : Int)]] w fun r w' =>
      r = .returned (if q then .tuple #[.int .u64 (Fld.sub b (Bx.mask (Fld.pow e s)) : Nat), .int .i64 0] else .tuple #[.int .u64 0, .int .i64 21]) ∧ Below w.heap.size w w' := by
  have HP := Lib.hid (fun W => rpub_any s W hs)
  rw [← h] at HP
  have HW := Lib.hid (fun W => rpow_any e s W hs)
  obtain ⟨k, hk⟩ : ∃ k, k = Fld.pow e s := ⟨_, rfl⟩
  rw [← hk] at HW hq ⊢
  have HM := Lib.hid (fun W B => rmask_at k B W)
  obtain ⟨m, hm⟩ : ∃ m, m = Bx.mask k := ⟨_, rfl⟩
  rw [← hm] at HM ⊢
  have HS := Lib.hid (fun W => (rsub_any b m W).mono fun r w' (h : _ ∧ _) => (⟨h.1, h.2 ▸ Below.refl _ _⟩ : r = .returned (.int .u64 (Fld.sub b m : Nat)) ∧ Below W.heap.size W w'))
  obtain ⟨v, hv⟩ : ∃ v, v = Fld.sub b m := ⟨_, rfl⟩
  rw [← hv] at HS ⊢
  have HT := Lib.hid (fun W B => rtag_at k b t B W)
  obtain ⟨g', hg'⟩ : ∃ g', g' = Bx.tag k b t := ⟨_, rfl⟩
  rw [← hg'] at HT hq
  have HD : Hid (((g : Int) != (g' : Int)) = !q) := Lib.hid (by
    rw [hq]
    by_cases h : g = g'
    · rw [decide_eq_true h, h]; simp
    · rw [decide_eq_false h, Bool.not_false, bne_iff_ne]; omega)
  clear hg' hv hm hk h hq
  have hd : ((t : Int) != (t : Int)) = false := by simp
  have hR0 := blk_new w 25 #[.int .u64 (t : Int), .int .u64 (e : Int), .int .u64 (b : Int), .int .u64 (g : Int)]
  have hk0 : Below w.heap.size w (w.alloc (.cells #[.int .u64 (t : Int), .int .u64 (e : Int), .int .u64 (b : Int), .int .u64 (g : Int)] 25)) := (Below.refl _ w).alloc (Nat.le_refl _) _
  have hs0 : (w.alloc (.cells #[.int .u64 (t : Int), .int .u64 (e : Int), .int .u64 (b : Int), .int .u64 (g : Int)] 25)).heap.size = w.heap.size + 1 := by simp
  obtain ⟨w0, hw0⟩ : ∃ w0, w0 = w.alloc (.cells #[.int .u64 (t : Int), .int .u64 (e : Int), .int .u64 (b : Int), .int .u64 (g : Int)] 25) := ⟨_, rfl⟩
  go_enter Try.func19, Try.ntmps19
  go_wp2_with fail
  rw [← hw0] at hR0 hk0 hs0 ⊢
  clear hw0
  have k0 : At4 w0 w.heap.size t e b g := box_at hR0
  clear hR0
  have k1 := k0.1
  have k1' : w0.drew.cell? ⟨w.heap.size, 0, none⟩ = some (.int .u64 (t : Int)) := k1
  go_region_held3 (fun w' : World => w'.cell? ⟨w.heap.size, 0, none⟩ = some (.int .u64 (t : Int)))
    ((first | with_reducible exact k1 | with_reducible exact k1' | with_reducible exact k2))
    (first
      | (go_at_call 13; ((with_reducible refine (HP.out _).mono ?_); rintro r w1 ⟨rfl, hb1'⟩; have hb1 : Below w0.heap.size w0 w1 := below_of_drew hb1'; clear hb1'; have k2 := (hb1.cell (p := ⟨w.heap.size, 0, none⟩) (by show w.heap.size < w0.heap.size; omega)).trans k1)))
  have a1 := k0.below hb1 (by omega)
  have hk1 := hk0.trans (hb1.mono (by omega))
  have hs1 := hb1.size
  clear k1 k1' k2 k0 hb1 hk0
  have c1 := a1.2.1
  go_wp2_with fail
  refine (HW.out _).mono ?_
  rintro r w2 ⟨rfl, hb2⟩
  have a2 := a1.below hb2 (by omega)
  have hk2 := hk1.trans (hb2.mono (by omega))
  have hs2 := hb2.size
  clear a1 hb2 hk1 c1
  go_wp2_with fail
  have hs2' : w.heap.size < w2.heap.size := by omega
  have k1 : w2.cell? ⟨w.heap.size, 0, none⟩ = some (.int .u64 (t : Int)) ∧ w2.cell? ⟨w.heap.size, 2, none⟩ = some (.int .u64 (b : Int)) ∧ w2.cell? ⟨w.heap.size, 3, none⟩ = some (.int .u64 (g : Int)) := ⟨a2.1, a2.2.2.1, a2.2.2.2⟩
  have k1' : w2.drew.cell? ⟨w.heap.size, 0, none⟩ = some (.int .u64 (t : Int)) ∧ w2.drew.cell? ⟨w.heap.size, 2, none⟩ = some (.int .u64 (b : Int)) ∧ w2.drew.cell? ⟨w.heap.size, 3, none⟩ = some (.int .u64 (g : Int)) := k1
  have k2 : (w2.alloc (.cells #[.int .u64 (k : Int), .int .u64 (b : Int), .int .u64 (t : Int)] 22)).drew.cell? ⟨w.heap.size, 0, none⟩ = some (.int .u64 (t : Int)) ∧ (w2.alloc (.cells #[.int .u64 (k : Int), .int .u64 (b : Int), .int .u64 (t : Int)] 22)).drew.cell? ⟨w.heap.size, 2, none⟩ = some (.int .u64 (b : Int)) ∧ (w2.alloc (.cells #[.int .u64 (k : Int), .int .u64 (b : Int), .int .u64 (t : Int)] 22)).drew.cell? ⟨w.heap.size, 3, none⟩ = some (.int .u64 (g : Int)) := ⟨cell_alloc_l _ a2.1, cell_alloc_l _ a2.2.2.1, cell_alloc_l _ a2.2.2.2⟩
  have hd2 := HD.out
  clear hs0 hs1 hs2
  go_region_held3 (fun w' : World => w'.cell? ⟨w.heap.size, 0, none⟩ = some (.int .u64 (t : Int)) ∧ w'.cell? ⟨w.heap.size, 2, none⟩ = some (.int .u64 (b : Int)) ∧ w'.cell? ⟨w.heap.size, 3, none⟩ = some (.int .u64 (g : Int)))
    ((first | with_reducible exact k1 | with_reducible exact k1' | with_reducible exact k2 | with_reducible exact k3))
    (first
      | (go_at_call 26; have q1 := HT.out (w2.alloc (.cells #[.int .u64 (k : Int), .int .u64 (b : Int), .int .u64 (t : Int)] 22)).drew w2.heap.size (blk_new w2 22 _); ((with_reducible refine q1.mono ?_); clear q1; rintro r w3 ⟨rfl, hb3'⟩; have hb3 := Bx.below_new (below_of_drew hb3'); clear hb3'; have a3 := a2.below hb3 hs2'; have k3 : w3.cell? ⟨w.heap.size, 0, none⟩ = some (.int .u64 (t : Int)) ∧ w3.cell? ⟨w.heap.size, 2, none⟩ = some (.int .u64 (b : Int)) ∧ w3.cell? ⟨w.heap.size, 3, none⟩ = some (.int .u64 (g : Int)) := ⟨a3.1, a3.2.2.1, a3.2.2.2⟩)))
  have hs3 : w.heap.size < w3.heap.size := Nat.lt_of_lt_of_le hs2' hb3.size
  have hk3 := hk2.trans (hb3.mono (by omega))
  clear k1 k1' k2 k3 hb3 hk2 a2 hd2
  cases q
  · go_wp2
    go_ret2
    exact ⟨rfl, hk3⟩
  · go_wp2_with fail
    have k1 := a3.2.2.1
    have k1' : w3.drew.cell? ⟨w.heap.size, 2, none⟩ = some (.int .u64 (b : Int)) := k1
    have k2 : (w3.alloc (.cells #[.int .u64 (k : Int)] 22)).drew.cell? ⟨w.heap.size, 2, none⟩ = some (.int .u64 (b : Int)) := cell_alloc_l _ k1
    go_region_held3 (fun w' : World => w'.cell? ⟨w.heap.size, 2, none⟩ = some (.int .u64 (b : Int)))
      ((first | with_reducible exact k1 | with_reducible exact k1' | with_reducible exact k2 | with_reducible exact k3 | with_reducible exact k4))
      (first
        | (go_at_call 26; have q1 := HM.out (w3.alloc (.cells #[.int .u64 (k : Int)] 22)).drew w3.heap.size (blk_new w3 22 _); ((with_reducible refine q1.mono ?_); clear q1; rintro r w4 ⟨rfl, hb4'⟩; have hb4 := Bx.below_new (below_of_drew hb4'); clear hb4'; have k3 := (hb4.cell (p := ⟨w.heap.size, 2, none⟩) hs3).trans k1))
        | (go_at_call 28; ((with_reducible refine (HS.out _).mono ?_); rintro r w5 ⟨rfl, hb5⟩; have k4 := (hb5.cell (p := ⟨w.heap.size, 2, none⟩) (Nat.lt_of_lt_of_le hs3 hb4.size)).trans k3)))
    have hk5 := (hk3.trans (hb4.mono (by omega))).trans (hb5.mono (by have := hb4.size; omega))
    clear k1 k1' k2 k3 k4 hb4 hb5 hk3 a3
    go_wp2
    go_ret2
    exact ⟨rfl, hk5⟩

theorem ropen_any (s t e b g : Nat) (w : World) (hs : s < 18446744073709551616) :
    Calls Try.prog 19 #[.int .u64 s, .agg #[.int .u64 (t : Int), .int .u64 (e : Int), .int .u64 (b : Int), .int .u64 (g : Int)]] w fun r w' =>
      r = .returned (.tuple #[.int .u64 ((Bx.opn s t e b g).1 : Nat), .int .i64 ((Bx.opn s t e b g).2 : Nat)]) ∧ Below w.heap.size w w' := by
  by_cases h : t = Bx.pub s
  · refine (ropen_go s t e b g w hs h _ rfl).mono ?_
    rintro r w' ⟨rfl, hk⟩
    refine ⟨?_, hk⟩
    unfold Bx.opn
    rw [if_pos h]
    by_cases h2 : g = Bx.tag (Fld.pow e s) b t
    · rw [decide_eq_true h2, if_pos h2]; rfl
    · rw [decide_eq_false h2, if_neg h2]; rfl
  · refine (ropen_key s t e b g w hs h).mono ?_
    rintro r w' ⟨rfl, hk⟩
    refine ⟨?_, hk⟩
    unfold Bx.opn
    rw [if_neg h]; rfl

end Go.Proofs.Ytokmghojdmpacaa
