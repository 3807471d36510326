/-
  Boxes compared as structs.
-/
import Derived.Test.YtokmghojdmpacaaBxb
namespace Go.Proofs.Ytokmghojdmpacaa
open Go.RowKit

namespace Bx
/-- Two boxes' numbers are the same. -/
def alike (a b c d a' b' c' d' : Nat) : Bool := decide (a = a' ∧ b = b' ∧ c = c' ∧ d = d')
end Bx
theorem box_under : Try.prog.underlying 25 = some (.struct (Try.prog.fieldsOf 25)) := by kernel_rfl
theorem box_held : Try.prog.stoodInHeld 25 = false := by kernel_rfl
theorem box_guard : Try.prog.eqGuardType Try.prog.depth 25 = false := by kernel_rfl
theorem box_same (a b c d a' b' c' d' : Nat) (w : World) (n : Nat) :
    (Op.equalIn (n + 2) 25 (.agg #[.int .u64 (a : Int), .int .u64 (b : Int), .int .u64 (c : Int), .int .u64 (d : Int)]) (.agg #[.int .u64 (a' : Int), .int .u64 (b' : Int), .int .u64 (c' : Int), .int .u64 (d' : Int)])).run Try.prog w = .ok (Bx.alike a b c d a' b' c' d') w := by
  rw [run_equalIn_struct w (n + 1) 25 _ _ box_under box_held]
  have hf : (Try.prog.fieldsOf 25).toList = [{ name := "To", type := 22, offset := 0, embedded := false, tag := "", pkgPath := "", byteOffset := 0 },
          { name := "Eph", type := 22, offset := 1, embedded := false, tag := "", pkgPath := "", byteOffset := 8 },
          { name := "Body", type := 22, offset := 2, embedded := false, tag := "", pkgPath := "", byteOffset := 16 },
          { name := "Tag", type := 22, offset := 3, embedded := false, tag := "", pkgPath := "", byteOffset := 24 }] := by
    simp [Program.fieldsOf, Try.underlying25]
  rw [hf]
  have hi := fun (w : World) (x y : Nat) => run_equalIn_int (P := Try.prog) w n 22 .u64 .u64 (x : Int) (y : Int) Try.underlying22
  have e : ∀ x y : Nat, ((x : Int) == (y : Int)) = decide (x = y) := fun x y => by
    by_cases h : x = y
    · rw [decide_eq_true h, beq_iff_eq]; omega
    · rw [decide_eq_false h, beq_eq_false_iff_ne]; omega
  have hp := fun (w : World) (xs : Array Value) (i : Nat) (v : Value) (h : xs[i]? = some v) => (show (part 22 xs i).run Try.prog w = .ok v w by simp [part, isAgg, go_sem, run_underlying Try.underlying22, h])
  have h0 := fun (w : World) (x0 x1 x2 x3 : Nat) => hp w #[.int .u64 (x0 : Int), .int .u64 (x1 : Int), .int .u64 (x2 : Int), .int .u64 (x3 : Int)] 0 _ rfl
  have h1 := fun (w : World) (x0 x1 x2 x3 : Nat) => hp w #[.int .u64 (x0 : Int), .int .u64 (x1 : Int), .int .u64 (x2 : Int), .int .u64 (x3 : Int)] 1 _ rfl
  have h2 := fun (w : World) (x0 x1 x2 x3 : Nat) => hp w #[.int .u64 (x0 : Int), .int .u64 (x1 : Int), .int .u64 (x2 : Int), .int .u64 (x3 : Int)] 2 _ rfl
  have h3 := fun (w : World) (x0 x1 x2 x3 : Nat) => hp w #[.int .u64 (x0 : Int), .int .u64 (x1 : Int), .int .u64 (x2 : Int), .int .u64 (x3 : Int)] 3 _ rfl
  unfold Bx.alike
  by_cases q1 : a = a' <;> by_cases q2 : b = b' <;> by_cases q3 : c = c' <;> by_cases q4 : d = d' <;>
    simp [Op.eqFields, Sem.run_bind, hi, h0, h1, h2, h3, e, q1, q2, q3, q4, Result.andThen_ok, Sem.run_ite, Sem.run_pure]

theorem box_eql (a b c d a' b' c' d' : Nat) (w : World) :
    (binOp .eql 25 (.agg #[.int .u64 (a : Int), .int .u64 (b : Int), .int .u64 (c : Int), .int .u64 (d : Int)]) (.agg #[.int .u64 (a' : Int), .int .u64 (b' : Int), .int .u64 (c' : Int), .int .u64 (d' : Int)])).run Try.prog w = .ok (.bool (Bx.alike a b c d a' b' c' d')) w := by
  rw [run_eql_struct, box_same]
  rfl
theorem box_neq (a b c d a' b' c' d' : Nat) (w : World) :
    (binOp .neq 25 (.agg #[.int .u64 (a : Int), .int .u64 (b : Int), .int .u64 (c : Int), .int .u64 (d : Int)]) (.agg #[.int .u64 (a' : Int), .int .u64 (b' : Int), .int .u64 (c' : Int), .int .u64 (d' : Int)])).run Try.prog w = .ok (.bool (!Bx.alike a b c d a' b' c' d')) w := by
  rw [run_neq_struct, box_same]
  rfl
theorem box_free (op : BinOp) (x y : Operand) (xs ys : Array Value) (w : World) : (eqGuard op 25 x y (.agg xs) (.agg ys)).run Try.prog w = .ok () w :=
  run_eqGuard_agg w op 25 x y xs ys box_guard

/-! ### a box that lies in a variable -/
theorem box_at {w : World} {R t e b g : Nat} (h : Blk w R 25 #[.int .u64 (t : Int), .int .u64 (e : Int), .int .u64 (b : Int), .int .u64 (g : Int)]) :
    w.cell? ⟨R, 0, none⟩ = some (.int .u64 (t : Int)) ∧ w.cell? ⟨R, 1, none⟩ = some (.int .u64 (e : Int)) ∧ w.cell? ⟨R, 2, none⟩ = some (.int .u64 (b : Int)) ∧ w.cell? ⟨R, 3, none⟩ = some (.int .u64 (g : Int)) :=
  ⟨h.cell 0, h.cell 1, h.cell 2, h.cell 3⟩

set_option maxRecDepth 100000 in
set_option maxHeartbeats 2000000 in
theorem open_key (s t e b g : Nat) (w : World) (hs : s < 18446744073709551616) (h : t ≠ Bx.pub s) :
    Calls Try.prog 18 #[.int .u64 s, .agg #[.int .u64 (t : Int), .int .u64 (e : Int), .int .u64 (b : Int), .int .u64 (g : Int)]] w fun r w' =>
      r = .returned (.tuple #[.int .u64 0, .int .i64 20]) ∧ Below w.heap.size w w' := by
  have HP := Lib.hid (fun W => pub_any s W hs)
  obtain ⟨p, hp⟩ : ∃ p, p = Bx.pub s := ⟨_, rfl⟩
  rw [← hp] at HP h
  have hd : ((t : Int) != (p : Int)) = true := by rw [bne_iff_ne]; omega
  clear hp h
  have hR0 := blk_new w 25 #[.int .u64 (t : Int), .int .u64 (e : Int), .int .u64 (b : Int), .int .u64 (g : Int)]
  have hk0 : Below w.heap.size w (w.alloc (.cells #[.int .u64 (t : Int), .int .u64 (e : Int), .int .u64 (b : Int), .int .u64 (g : Int)] 25)) := (Below.refl _ w).alloc (Nat.le_refl _) _
  have hs0 : (w.alloc (.cells #[.int .u64 (t : Int), .int .u64 (e : Int), .int .u64 (b : Int), .int .u64 (g : Int)] 25)).heap.size = w.heap.size + 1 := by simp
  obtain ⟨w0, hw0⟩ : ∃ w0, w0 = w.alloc (.cells #[.int .u64 (t : Int), .int .u64 (e : Int), .int .u64 (b : Int), .int .u64 (g : Int)] 25) := ⟨_, rfl⟩
  go_enter Try.func18, Try.ntmps18
  go_wp2_with fail
  rw [← hw0] at hR0 hk0 hs0 ⊢
  clear hw0
  have k1 := (box_at hR0).1
  have k1' : w0.drew.cell? ⟨w.heap.size, 0, none⟩ = some (.int .u64 (t : Int)) := k1
  go_region_held3 (fun w' : World => w'.cell? ⟨w.heap.size, 0, none⟩ = some (.int .u64 (t : Int)))
    ((first | with_reducible exact k1 | with_reducible exact k1' | with_reducible exact k2))
    (first
      | (go_at_call 12; ((with_reducible refine (HP.out _).mono ?_); rintro r w1 ⟨rfl, hb1'⟩; have hb1 : Below w0.heap.size w0 w1 := below_of_drew hb1'; clear hb1'; have k2 := (hb1.cell (p := ⟨w.heap.size, 0, none⟩) (by show w.heap.size < w0.heap.size; omega)).trans k1)))
  go_wp2
  go_ret2
  exact ⟨rfl, hk0.trans (hb1.mono (by omega))⟩

/-- The four numbers of a box that lies at R. -/
def At4 (w : World) (R t e b g : Nat) : Prop :=
  w.cell? ⟨R, 0, none⟩ = some (.int .u64 (t : Int)) ∧ w.cell? ⟨R, 1, none⟩ = some (.int .u64 (e : Int)) ∧ w.cell? ⟨R, 2, none⟩ = some (.int .u64 (b : Int)) ∧ w.cell? ⟨R, 3, none⟩ = some (.int .u64 (g : Int))
theorem At4.below {w w' : World} {n R t e b g : Nat} (h : At4 w R t e b g) (hb : Below n w w') (hR : R < n) : At4 w' R t e b g :=
  ⟨(hb.cell (p := ⟨R, 0, none⟩) hR).trans h.1, (hb.cell (p := ⟨R, 1, none⟩) hR).trans h.2.1, (hb.cell (p := ⟨R, 2, none⟩) hR).trans h.2.2.1, (hb.cell (p := ⟨R, 3, none⟩) hR).trans h.2.2.2⟩

set_option maxRecDepth 100000 in
set_option maxHeartbeats 4000000 in
theorem open_go (s t e b g : Nat) (w : World) (hs : s < 18446744073709551616) (h : t = Bx.pub s) (he : e < 18446744073709551616) (hb : b < 2305843009213693951) (q : Bool) (hq : q = decide (g = Bx.tag (Fld.pow e s) b t)) :
    Calls Try.prog 18 #[.int .u64 s, .agg #[.int .u64 (t : Int), .int .u64 (e : Int), .int .u64 (b : Int), .int .u64 (g : Int)]] w fun r w' =>
      r = .returned (if q then .tuple #[.int .u64 (Fld.sub b (Bx.mask (Fld.pow e s)) : Nat), .int .i64 0] else .tuple #[.int .u64 0, .int .i64 21]) ∧ Below w.heap.size w w' := by
  have ht := Bx.pub_lt s
  rw [← h] at ht
  have HP := Lib.hid (fun W => pub_any s W hs)
  rw [← h] at HP
  have hkl := Fld.pow_lt e s
  have HW := Lib.hid (fun W => pow_any e s W he hs)
  obtain ⟨k, hk⟩ : ∃ k, k = Fld.pow e s := ⟨_, rfl⟩
  rw [← hk] at HW hq hkl ⊢
  have hml := Bx.mask_lt k
  have HM := Lib.hid (fun W => mask_any k W (by omega))
  have HC0 := fun (v : Nat) (hv : v < 18446744073709551616) (W : World) (Bv Bt Be : Nat) (h : Cl W Bv Bt Be v t e) => h.call k (by omega) hv (by omega)
  have hadd := Bx.add_sub b (Bx.mask k) hb
  obtain ⟨m, hm⟩ : ∃ m, m = Bx.mask k := ⟨_, rfl⟩
  rw [← hm] at HM HC0 hml hadd ⊢
  have hvl := Fld.sub_lt b m
  have HS := Lib.hid (fun W => (sub_any b m W (by omega) (by omega)).mono fun r w' (h : _ ∧ _) => (⟨h.1, h.2 ▸ Below.refl _ _⟩ : r = .returned (.int .u64 (Fld.sub b m : Nat)) ∧ Below W.heap.size W w'))
  obtain ⟨v, hv⟩ : ∃ v, v = Fld.sub b m := ⟨_, rfl⟩
  rw [← hv] at HS hadd hvl ⊢
  have HC1 := HC0 v (by omega)
  rw [hadd] at HC1
  obtain ⟨g', hg'⟩ : ∃ g', g' = Bx.tag k b t := ⟨_, rfl⟩
  rw [← hg'] at HC1 hq
  have HC := Lib.hid HC1
  have HN : Hid (∀ W, (binOp .neq 25 (.agg #[.int .u64 (t : Int), .int .u64 (e : Int), .int .u64 (b : Int), .int .u64 (g' : Int)]) (.agg #[.int .u64 (t : Int), .int .u64 (e : Int), .int .u64 (b : Int), .int .u64 (g : Int)])).run Try.prog W = .ok (.bool (!q)) W) := Lib.hid fun W => by
    rw [box_neq, hq]
    congr 3
    unfold Bx.alike
    exact decide_eq_decide.2 ⟨fun h => h.2.2.2.symm, fun h => ⟨rfl, rfl, rfl, h.symm⟩⟩
  clear hg' hv hm hk h HC1 HC0 hadd hq
  have hd : ((t : Int) != (t : Int)) = false := by simp
  have hR0 := blk_new w 25 #[.int .u64 (t : Int), .int .u64 (e : Int), .int .u64 (b : Int), .int .u64 (g : Int)]
  have hk0 : Below w.heap.size w (w.alloc (.cells #[.int .u64 (t : Int), .int .u64 (e : Int), .int .u64 (b : Int), .int .u64 (g : Int)] 25)) := (Below.refl _ w).alloc (Nat.le_refl _) _
  have hs0 : (w.alloc (.cells #[.int .u64 (t : Int), .int .u64 (e : Int), .int .u64 (b : Int), .int .u64 (g : Int)] 25)).heap.size = w.heap.size + 1 := by simp
  obtain ⟨w0, hw0⟩ : ∃ w0, w0 = w.alloc (.cells #[.int .u64 (t : Int), .int .u64 (e : Int), .int .u64 (b : Int), .int .u64 (g : Int)] 25) := ⟨_, rfl⟩
  go_enter Try.func18, Try.ntmps18
  go_wp2_with fail
  rw [← hw0] at hR0 hk0 hs0 ⊢
  clear hw0
  have k0 : At4 w0 w.heap.size t e b g := box_at hR0
  clear hR0
  have k1 := k0.1
  have k1' : w0.drew.cell? ⟨w.heap.size, 0, none⟩ = some (.int .u64 (t : Int)) := k1
  go_region_held3 (fun w' : World => w'.cell? ⟨w.heap.size, 0, none⟩ = some (.int .u64 (t : Int)))
    ((first | with_reducible exact k1 | with_reducible exact k1' | with_reducible exact k2))
    (first
      | (go_at_call 12; ((with_reducible refine (HP.out _).mono ?_); rintro r w1 ⟨rfl, hb1'⟩; have hb1 : Below w0.heap.size w0 w1 := below_of_drew hb1'; clear hb1'; have k2 := (hb1.cell (p := ⟨w.heap.size, 0, none⟩) (by show w.heap.size < w0.heap.size; omega)).trans k1)))
  have a1 := k0.below hb1 (by omega)
  have hk1 := hk0.trans (hb1.mono (by omega))
  have hs1 := hb1.size
  clear k1 k1' k2 k0 hb1 hk0
  have c1 := a1.2.1
  go_wp2_with fail
  refine (HW.out _).mono ?_
  rintro r w2 ⟨rfl, hb2⟩
  have a2 := a1.below hb2 (by omega)
  have hk2 := hk1.trans (hb2.mono (by omega))
  have hs2 := hb2.size
  clear a1 hb2 hk1 c1
  go_wp2_with fail
  have k1 := a2.2.2.1
  have k1' : w2.drew.cell? ⟨w.heap.size, 2, none⟩ = some (.int .u64 (b : Int)) := k1
  go_region_held3 (fun w' : World => w'.cell? ⟨w.heap.size, 2, none⟩ = some (.int .u64 (b : Int)))
    ((first | with_reducible exact k1 | with_reducible exact k1' | with_reducible exact k2 | with_reducible exact k3))
    (first
      | (go_at_call 27; ((with_reducible refine (HM.out _).mono ?_); rintro r w3 ⟨rfl, hb3'⟩; have hb3 : Below w2.heap.size w2 w3 := below_of_drew hb3'; clear hb3'; have k2 := (hb3.cell (p := ⟨w.heap.size, 2, none⟩) (by show w.heap.size < w2.heap.size; omega)).trans k1; have hs3 := hb3.size))
      | (go_at_call 21; ((with_reducible refine (HS.out _).mono ?_); rintro r w4 ⟨rfl, hb4⟩; have k3 := (hb4.cell (p := ⟨w.heap.size, 2, none⟩) (by show w.heap.size < w3.heap.size; omega)).trans k2; have hs4 := hb4.size)))
  have a4 := (a2.below hb3 (by omega)).below hb4 (by omega)
  have hk4 := (hk2.trans (hb3.mono (by omega))).trans (hb4.mono (by omega))
  clear k1 k1' k2 k3 a2 hb3 hb4 hk2
  go_wp2_with fail
  have hs4' : w.heap.size < w4.heap.size := by omega
  have k1 : w4.cell? ⟨w.heap.size, 0, none⟩ = some (.int .u64 (t : Int)) ∧ w4.cell? ⟨w.heap.size, 1, none⟩ = some (.int .u64 (e : Int)) ∧ w4.cell? ⟨w.heap.size, 2, none⟩ = some (.int .u64 (b : Int)) ∧ w4.cell? ⟨w.heap.size, 3, none⟩ = some (.int .u64 (g : Int)) := a4
  have k1' : w4.drew.cell? ⟨w.heap.size, 0, none⟩ = some (.int .u64 (t : Int)) ∧ w4.drew.cell? ⟨w.heap.size, 1, none⟩ = some (.int .u64 (e : Int)) ∧ w4.drew.cell? ⟨w.heap.size, 2, none⟩ = some (.int .u64 (b : Int)) ∧ w4.drew.cell? ⟨w.heap.size, 3, none⟩ = some (.int .u64 (g : Int)) := a4
  have HNG := Lib.hid (fun (W : World) (x y : Operand) => box_free .neq x y #[.int .u64 (t : Int), .int .u64 (e : Int), .int .u64 (b : Int), .int .u64 (g' : Int)] #[.int .u64 (t : Int), .int .u64 (e : Int), .int .u64 (b : Int), .int .u64 (g : Int)] W)
  have hn := HN.out
  have hg := HNG.out
  clear hs1 hs2 hs3 hs4 hs0
  go_region_held3 (fun w' : World => w'.cell? ⟨w.heap.size, 0, none⟩ = some (.int .u64 (t : Int)) ∧ w'.cell? ⟨w.heap.size, 1, none⟩ = some (.int .u64 (e : Int)) ∧ w'.cell? ⟨w.heap.size, 2, none⟩ = some (.int .u64 (b : Int)) ∧ w'.cell? ⟨w.heap.size, 3, none⟩ = some (.int .u64 (g : Int)))
    ((first | with_reducible exact k1 | with_reducible exact k1' | with_reducible exact k2 | with_reducible exact k2' | with_reducible exact k3))
    (first
      | (go_at_call 24; ((with_reducible refine (sealing_any t e v _).mono ?_); rintro r w5 ⟨⟨Bv, Bt, Be, rfl, hcl⟩, hb5'⟩; have hb5 : Below w4.heap.size w4 w5 := below_of_drew hb5'; clear hb5'; have k2 : w5.cell? ⟨w.heap.size, 0, none⟩ = some (.int .u64 (t : Int)) ∧ w5.cell? ⟨w.heap.size, 1, none⟩ = some (.int .u64 (e : Int)) ∧ w5.cell? ⟨w.heap.size, 2, none⟩ = some (.int .u64 (b : Int)) ∧ w5.cell? ⟨w.heap.size, 3, none⟩ = some (.int .u64 (g : Int)) := a4.below hb5 hs4'; have k2' : w5.drew.cell? ⟨w.heap.size, 0, none⟩ = some (.int .u64 (t : Int)) ∧ w5.drew.cell? ⟨w.heap.size, 1, none⟩ = some (.int .u64 (e : Int)) ∧ w5.drew.cell? ⟨w.heap.size, 2, none⟩ = some (.int .u64 (b : Int)) ∧ w5.drew.cell? ⟨w.heap.size, 3, none⟩ = some (.int .u64 (g : Int)) := k2; have HCL := Lib.hid hcl; clear hcl))
      | (go_at_call 33; ((with_reducible refine (HC.out _ _ _ _ HCL.out).mono ?_); rintro r w6 ⟨rfl, hb6⟩; have k3 : w6.cell? ⟨w.heap.size, 0, none⟩ = some (.int .u64 (t : Int)) ∧ w6.cell? ⟨w.heap.size, 1, none⟩ = some (.int .u64 (e : Int)) ∧ w6.cell? ⟨w.heap.size, 2, none⟩ = some (.int .u64 (b : Int)) ∧ w6.cell? ⟨w.heap.size, 3, none⟩ = some (.int .u64 (g : Int)) := At4.below k2 hb6 (Nat.lt_of_lt_of_le hs4' hb5.size))))
  have hk6 := (hk4.trans (hb5.mono (by omega))).trans (hb6.mono (by have := hb5.size; omega))
  clear k1 k1' k2 k2' k3 hn hg hb5 hb6 hk4 a4
  cases q
  · go_wp2
    go_ret2
    exact ⟨rfl, hk6⟩
  · go_wp2
    go_ret2
    exact ⟨rfl, hk6⟩

end Go.Proofs.Ytokmghojdmpacaa
