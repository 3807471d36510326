/-
  Package pack's cursor in memory: how many bytes are left; what is wrong is noted; bytes are gone along. No condition but what fits memory.
-/
import Derived.Test.YtkicjjcangkneaaGreatDoorPk
import Derived.Test.YtkicjjcangkneaaGreatDoorLawD
import Derived.BigQuiet
namespace Go.Proofs.YtkicjjcangkneaaGreatDoor
open Go.RowKit
attribute [local go_sem ↓] Go.wp_at_zero Go.wp_at_succ

/-- Block C (of type t) is a cursor: the bytes l (they lie below block lo), the place k, what is wrong. -/
def Cu (lo t : Nat) (w : World) (C : Nat) (l : List UInt8) (k : Nat) (e : Int) : Prop :=
  ∃ A c, Blk w C t #[.slice A l.length c, .int .i64 (k : Int), .int .i64 e] ∧ Rd lo w A (u8s l) ∧ lo ≤ C ∧ k ≤ l.length ∧ l.length ≤ c ∧ l.length ≤ 1000000
theorem Cu.lt {lo t : Nat} {w : World} {C : Nat} {l : List UInt8} {k : Nat} {e : Int} (h : Cu lo t w C l k e) : C < w.heap.size := by
  obtain ⟨_, _, h, _⟩ := h
  exact h.lt
theorem Cu.lo_le {lo t : Nat} {w : World} {C : Nat} {l : List UInt8} {k : Nat} {e : Int} (h : Cu lo t w C l k e) : lo ≤ C := by
  obtain ⟨_, _, _, _, h, _⟩ := h
  exact h
theorem Cu.place {lo t : Nat} {w : World} {C : Nat} {l : List UInt8} {k : Nat} {e : Int} (h : Cu lo t w C l k e) : k ≤ l.length ∧ l.length ≤ 1000000 := by
  obtain ⟨_, _, _, _, _, h1, _, h2⟩ := h
  exact ⟨h1, h2⟩
/-- A call that turns another block alone, none below lo. -/
theorem Cu.grown {lo t : Nat} {w w' : World} {C : Nat} {l : List UInt8} {k : Nat} {e : Int} (h : Cu lo t w C l k e) {row : Option Nat} (hg : w.grownBy w' row) (hr : ∀ g, row = some g → lo ≤ g ∧ g ≠ C) : Cu lo t w' C l k e := by
  obtain ⟨A, c, hB, hA, h1, h2⟩ := h
  refine ⟨A, c, blk_grown hB hg (fun e => (hr C e.symm).2 rfl), fun hp => ?_, h1, h2⟩
  obtain ⟨b, off, e, hlt, hc⟩ := hA hp
  exact ⟨b, off, e, hlt, fun i u hu => hg.cell (hc i u hu) fun eb => by have := (hr b eb.symm).1; omega⟩
theorem Cu.below {lo t n : Nat} {w w' : World} {C : Nat} {l : List UInt8} {k : Nat} {e : Int} (h : Cu lo t w C l k e) (hb : Below n w w') (hn : C < n) : Cu lo t w' C l k e := by
  obtain ⟨A, c, hB, hA, h1, h2⟩ := h
  exact ⟨A, c, hB.below hb hn, hA.below (hb.mono (by omega)), h1, h2⟩
theorem Rd.only {lo g : Nat} {w w' : World} {A : Option Addr} {vs : List Value} (h : Rd lo w A vs) (hg : w.grownBy w' (some g)) (hlo : lo ≤ g) : Rd lo w' A vs := fun hp => by
  obtain ⟨b, off, e, hlt, hc⟩ := h hp
  exact ⟨b, off, e, hlt, fun i u hu => hg.cell (hc i u hu) fun eb => by injection eb with eb; have eb : b = g := eb; omega⟩
theorem Cu.drew {lo t : Nat} {w : World} {C : Nat} {l : List UInt8} {k : Nat} {e : Int} (h : Cu lo t w C l k e) (n : Nat) : Cu lo t (w.drewN n) C l k e := h
theorem grown_drewN {w w' : World} {n : Nat} {row : Option Nat} (h : (w.drewN n).grownBy w' row) : w.grownBy w' row := ⟨h.os, h.tape, h.output, h.size, h.block⟩

/-! ### left, fail -/
theorem left_at (C m c k r : Nat) (A : Option Addr) (e : Int) (w : World) (hr : m = k + r) (hm : m ≤ 1000000) (hC : Blk w C 165 #[.slice A m c, .int .i64 k, .int .i64 e]) :
    Calls Tryz.prog 148 #[.pointer (some ⟨C, 0, none⟩)] w fun e w' => e = .returned (.int .i64 (r : Int)) ∧ ∃ n, w' = w.drewN n := by
  have c0 : w.cell? ⟨C, 0, none⟩ = some (.slice A m c) := hC.cell 0
  have c1 : w.cell? ⟨C, 1, none⟩ = some (.int .i64 k) := hC.cell 1
  have hs : (m : Int) - (k : Int) = (r : Int) := by omega
  have HR := Lib.hid hr
  clear hr hC
  go_enter Tryz.func148, Tryz.ntmps148
  go_wp2_with fail
  go_quiet (fail)
  go_wp2
  go_ret
  exact ⟨rfl, _, rfl⟩
theorem left_any {lo C : Nat} {l : List UInt8} {k : Nat} {e : Int} {w : World} (h : Cu lo 165 w C l k e) :
    Calls Tryz.prog 148 #[.pointer (some ⟨C, 0, none⟩)] w fun e w' => e = .returned (.int .i64 ((l.length - k : Nat) : Int)) ∧ ∃ n, w' = w.drewN n := by
  obtain ⟨A, c, hB, _, _, h2, _, h4⟩ := h
  exact left_at C l.length c k (l.length - k) A e w (by omega) h4 hB

theorem fail_none {lo C : Nat} {l : List UInt8} {k : Nat} {w : World} (z : Int) (h : Cu lo 165 w C l k 0) :
    Calls Tryz.prog 200 #[.pointer (some ⟨C, 0, none⟩), .int .i64 z] w fun e w' => (∃ r, e = .returned r) ∧ Cu lo 165 w' C l k z ∧ w.grownBy w' (some C) := by
  obtain ⟨A, c, hC, hA, h1, h2⟩ := h
  have c2 : w.cell? ⟨C, 2, none⟩ = some (.int .i64 0) := hC.cell 2
  have f2 : w.frozen? ⟨C, 2, none⟩ = false := hC.frozen 2
  have hg : w.grownBy (w.setCell ⟨C, 2, none⟩ (.int .i64 z)) (some C) := only_set (only_refl _ _) 2 _
  have HC1 := Lib.hid (hC.set_ 2 (.int .i64 z))
  have HA := Lib.hid (hA.only hg h1)
  have HG := Lib.hid hg
  have HR := Lib.hid h2
  clear hg hC hA h2
  go_enter Tryz.func200, Tryz.ntmps200
  go_wp2
  go_end0
  exact ⟨⟨_, rfl⟩, ⟨A, c, HC1.out, HA.out, h1, HR.out⟩, HG.out⟩
theorem fail_some {lo C : Nat} {l : List UInt8} {k : Nat} {e : Int} {w : World} (z : Int) (he : e ≠ 0) (h : Cu lo 165 w C l k e) :
    Calls Tryz.prog 200 #[.pointer (some ⟨C, 0, none⟩), .int .i64 z] w fun e w' => (∃ r, e = .returned r) ∧ w = w' := by
  obtain ⟨A, c, hC, _⟩ := h
  have c2 : w.cell? ⟨C, 2, none⟩ = some (.int .i64 e) := hC.cell 2
  have he : (e == 0) = false := by rw [beq_eq_false_iff_ne]; exact he
  clear hC
  go_enter Tryz.func200, Tryz.ntmps200
  go_wp2
  go_end0
  exact ⟨⟨_, rfl⟩, rfl⟩

/-! ### take -/
theorem take_bad {lo C : Nat} {l : List UInt8} {k : Nat} {e : Int} {w : World} (n : Int) (he : e ≠ 0) (h : Cu lo 165 w C l k e) :
    Calls Tryz.prog 199 #[.pointer (some ⟨C, 0, none⟩), .int .i64 n] w fun e w' => e = .returned (.slice none 0 0) ∧ ∃ n, w' = w.drewN n := by
  have hl := left_any h
  have hf := fun m : Nat => fail_some 9 he (h.drew m)
  obtain ⟨A, c, hC, _⟩ := h
  have c2 : w.cell? ⟨C, 2, none⟩ = some (.int .i64 e) := hC.cell 2
  have he : (e != 0) = true := by rw [bne_iff_ne]; exact he
  obtain ⟨r, hr⟩ : ∃ r, r = l.length - k := ⟨_, rfl⟩
  rw [← hr] at hl
  have HL := Lib.hid hl
  have HF := Lib.hid hf
  clear hl hf hC hr
  go_enter Tryz.func199, Tryz.ntmps199
  go_wp2_with fail
  refine (HL.out).mono ?_
  rintro e w1 ⟨rfl, m, rfl⟩
  by_cases hn : (r : Int) < n
  · go_wp2_with fail
    refine (HF.out m).mono ?_
    rintro e w1 ⟨⟨_, rfl⟩, rfl⟩
    go_wp2
    go_ret
    exact ⟨rfl, _, rfl⟩
  · go_wp2_with fail
    go_ret
    exact ⟨rfl, _, rfl⟩

theorem take_short {lo C : Nat} {l : List UInt8} {k : Nat} {w : World} (n : Int) (hn : ((l.length - k : Nat) : Int) < n) (h : Cu lo 165 w C l k 0) :
    Calls Tryz.prog 199 #[.pointer (some ⟨C, 0, none⟩), .int .i64 n] w fun e w' => e = .returned (.slice none 0 0) ∧ Cu lo 165 w' C l k 9 ∧ w.grownBy w' (some C) := by
  have hl := left_any h
  have hf := fun m : Nat => fail_none 9 (h.drew m)
  obtain ⟨r, hr⟩ : ∃ r, r = l.length - k := ⟨_, rfl⟩
  rw [← hr] at hl hn
  have HL := Lib.hid hl
  have HF := Lib.hid hf
  clear hl hf hr h
  go_enter Tryz.func199, Tryz.ntmps199
  go_wp2_with fail
  refine (HL.out).mono ?_
  rintro e w1 ⟨rfl, m, rfl⟩
  go_wp2_with fail
  refine (HF.out m).mono ?_
  rintro e w1 ⟨⟨_, rfl⟩, hcu, hg⟩
  have HCU := Lib.hid hcu
  obtain ⟨A, c, hC, _⟩ := hcu
  have c2 : w1.cell? ⟨C, 2, none⟩ = some (.int .i64 9) := hC.cell 2
  clear hC HF HL
  go_wp2
  go_ret
  exact ⟨rfl, HCU.out, grown_drewN hg⟩

theorem slice_cut (A : Option Addr) (m c a b : Nat) (h1 : a ≤ b) (h2 : b ≤ m) (h3 : m ≤ c) (l : List UInt8) (hm : m = l.length) :
    ∃ A', (∀ W : World, (Instr.slice 28 (.slice A m c) (some (.int .i64 (a : Int))) (some (.int .i64 (b : Int))) none).run Tryz.prog W = .ok (.slice A' (b - a) (c - a)) W) ∧
      ∀ (B : Nat) (W : World), Rd B W A (u8s l) → Rd B W A' (u8s ((l.drop a).take (b - a))) := by
  refine ⟨if c = a then A else A.map (·.add (a * 1)), fun W => ?_, fun B W h hp => ?_⟩
  · have hz : (sizeOf (Tryz.prog.elem 28)).run Tryz.prog W = .ok 1 W := by kernel_rfl
    have h := run_slice_lh (P := Tryz.prog) W 28 A m c (by kernel_rfl) .i64 .i64 (a : Int) (b : Int) (by omega) (by omega) (by omega)
    rw [h, hz]
    simp only [Result.andThen, sliced, Int.toNat_natCast]
  · rw [u8s_len, List.length_take, List.length_drop] at hp
    obtain ⟨g, off, rfl, hlt, hc⟩ := h (by rw [u8s_len]; omega)
    refine ⟨g, off + a, ?_, hlt, u8s_part l hc a b⟩
    rw [if_neg (by omega), Nat.mul_one]
    exact congrArg some (Addr.add_lit _ _ _)

theorem cu_take_at (lo C m c k n : Nat) (A A' : Option Addr) (l : List UInt8) (w : World) (hm : m = l.length) (hn : k + n ≤ m) (hmb : m ≤ 1000000) (hC : Cu lo 165 w C l k 0)
    (hB : Blk w C 165 #[.slice A m c, .int .i64 (k : Int), .int .i64 0])
    (hs : ∀ W : World, (Instr.slice 28 (.slice A m c) (some (.int .i64 (k : Int))) (some (.int .i64 ((k + n : Nat) : Int))) none).run Tryz.prog W = .ok (.slice A' n (c - k)) W) :
    Calls Tryz.prog 199 #[.pointer (some ⟨C, 0, none⟩), .int .i64 (n : Int)] w fun e w' => e = .returned (.slice A' n (c - k)) ∧ Blk w' C 165 #[.slice A m c, .int .i64 ((k + n : Nat) : Int), .int .i64 0] ∧ w.grownBy w' (some C) := by
  have hl := left_any hC
  rw [← hm] at hl
  obtain ⟨d, hd⟩ : ∃ d, d = c - k := ⟨_, rfl⟩
  obtain ⟨r, hr⟩ : ∃ r, r = m - k := ⟨_, rfl⟩
  obtain ⟨q, hq⟩ : ∃ q, q = k + n := ⟨_, rfl⟩
  rw [← hd] at hs ⊢
  rw [← hr] at hl
  rw [← hq] at hs ⊢
  have hnr : ¬ (r : Int) < (n : Int) := by omega
  have hki : (k : Int) + (n : Int) = (q : Int) := by omega
  have hkj : (q : Int) - (n : Int) = (k : Int) := by omega
  have hqb : q ≤ 1000000 := by omega
  have c1 : w.cell? ⟨C, 1, none⟩ = some (.int .i64 k) := hB.cell 1
  have c2 : w.cell? ⟨C, 2, none⟩ = some (.int .i64 0) := hB.cell 2
  have f1 : w.frozen? ⟨C, 1, none⟩ = false := hB.frozen 1
  have HL := Lib.hid hl
  have HB := Lib.hid hB
  have HM := Lib.hid hm
  clear hl hB hm hC hd hr hq hn hmb
  go_enter Tryz.func199, Tryz.ntmps199
  go_wp2_with fail
  refine (HL.out).mono ?_
  rintro e w1 ⟨rfl, m1, rfl⟩
  go_wp2_with fail
  have hB1 : Blk ((w.drewN m1).setCell ⟨C, 1, none⟩ (.int .i64 (q : Int))) C 165 #[.slice A m c, .int .i64 (q : Int), .int .i64 0] := (show Blk (w.drewN m1) C 165 _ from HB.out).set_ 1 (.int .i64 (q : Int))
  have hg1 : w.grownBy ((w.drewN m1).setCell ⟨C, 1, none⟩ (.int .i64 (q : Int))) (some C) := only_set (only_drewN (only_refl _ _) m1) 1 _
  obtain ⟨w1, hw1⟩ : ∃ w1, w1 = (w.drewN m1).setCell ⟨C, 1, none⟩ (.int .i64 (q : Int)) := ⟨_, rfl⟩
  rw [← hw1] at hB1 hg1 ⊢
  have d0 : w1.cell? ⟨C, 0, none⟩ = some (.slice A m c) := hB1.cell 0
  have d1 : w1.cell? ⟨C, 1, none⟩ = some (.int .i64 (q : Int)) := hB1.cell 1
  have HB1 := Lib.hid hB1
  have HG1 := Lib.hid hg1
  clear hw1 c1 c2 f1 hB1 hg1
  go_quiet (fail)
  go_wp2
  go_ret
  exact ⟨rfl, HB1.out, only_drewN HG1.out _⟩

theorem cu_take_any {lo C : Nat} {l : List UInt8} {k : Nat} {w : World} (n : Nat) (hn : k + n ≤ l.length) (h : Cu lo 165 w C l k 0) :
    Calls Tryz.prog 199 #[.pointer (some ⟨C, 0, none⟩), .int .i64 (n : Int)] w fun e w' => (∃ A' c', e = .returned (.slice A' n c') ∧ Rd lo w' A' (u8s ((l.drop k).take n))) ∧ Cu lo 165 w' C l (k + n) 0 ∧ w.grownBy w' (some C) := by
  have hC := h
  obtain ⟨A, c, hB, hA, h1, h2, h3, h4⟩ := h
  obtain ⟨A', hs, hr⟩ := slice_cut A l.length c k (k + n) (by omega) hn h3 l rfl
  rw [Nat.add_sub_cancel_left] at hs hr
  refine (cu_take_at lo C l.length c k n A A' l w rfl hn h4 hC hB hs).mono ?_
  rintro e w' ⟨rfl, hB', hg⟩
  have hA' := hA.only hg h1
  exact ⟨⟨A', _, rfl, hr lo w' hA'⟩, ⟨A, c, hB', hA', h1, hn, h3, h4⟩, hg⟩

end Go.Proofs.YtkicjjcangkneaaGreatDoor
