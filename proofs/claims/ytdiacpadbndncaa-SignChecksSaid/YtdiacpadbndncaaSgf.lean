/-
  Package sign: Check tells whether a signature whose numbers are of their range is that of the bytes; and so it tells what the document says, of any numbers.
-/
import Derived.Test.YtdiacpadbndncaaSge
namespace Go.Proofs.Ytdiacpadbndncaa
open Go.RowKit

theorem sig_cells {w : World} {B t : Nat} {r s : Value} (h : Blk w B t #[r, s]) : w.cell? ⟨B, 0, none⟩ = some r ∧ w.cell? ⟨B, 1, none⟩ = some s := ⟨h.cell 0, h.cell 1⟩

set_option maxRecDepth 100000 in
set_option maxHeartbeats 4000000 in
theorem check_in {w : World} {A : Option Addr} {n c : Nat} {l : List UInt8} (hb : Bt w A n c l) (hn : n ≤ 1000000) (t r s : Nat) (hg : Sg.Rng t r s) :
    Calls Try.prog 18 #[.int .u64 t, .slice A n c, .agg #[.int .u64 r, .int .u64 s]] w fun e w' => e = .returned (.bool (decide (Sg.Eqn t (Sg.msg l) r s))) ∧ Below w.heap.size w w' := by
  obtain ⟨ht1, ht2, hr1, hr2, hs⟩ := hg
  have HM := Lib.hid (fun (W : World) (h : Bt W A n c l) => message_any h hn)
  have hml := Sg.msg_lt l
  have eE : Sg.Eqn t (Sg.msg l) r s = (Fld.pow 37 s = Fld.mul r (Fld.pow t (Sg.ask r t (Sg.msg l)))) := rfl
  have eD : decide (Sg.Eqn t (Sg.msg l) r s) = ((Fld.pow 37 s : Int) == (Fld.mul r (Fld.pow t (Sg.ask r t (Sg.msg l))) : Int)) := by
    by_cases k : Fld.pow 37 s = Fld.mul r (Fld.pow t (Sg.ask r t (Sg.msg l)))
    · rw [decide_eq_true (show Sg.Eqn t (Sg.msg l) r s from k), k]; exact beq_self_eq_true _ |>.symm
    · rw [decide_eq_false (show ¬ Sg.Eqn t (Sg.msg l) r s from k)]
      symm
      rw [beq_eq_false_iff_ne]
      omega
  rw [eD]
  clear eE eD
  obtain ⟨m, hm⟩ : ∃ m, m = Sg.msg l := ⟨_, rfl⟩
  rw [← hm] at HM hml ⊢
  have HT := Lib.hid (fun W => ispower_any t W (by omega))
  have HR := Lib.hid (fun W => ispower_any r W (by omega))
  rw [decide_eq_true (⟨ht1, ht2⟩ : 1 ≤ t ∧ t < 2305843009213693951)] at HT
  rw [decide_eq_true (⟨hr1, hr2⟩ : 1 ≤ r ∧ r < 2305843009213693951)] at HR
  have HA := Lib.hid (fun W : World => asked_any r t m W (by omega) (by omega) (by omega))
  have hel := Sg.ask_lt r t m
  obtain ⟨e, he⟩ : ∃ e, e = Sg.ask r t m := ⟨_, rfl⟩
  rw [← he] at HA hel ⊢
  have HP1 : Hid (∀ W : World, Calls Try.prog 27 #[.int .u64 2305843009213693951, .int .u64 37, .int .u64 (s : Int)] W fun e w' => e = .returned (.int .u64 (Fld.pow 37 s : Nat)) ∧ Below W.heap.size W w') := Lib.hid (fun W : World => power_any 37 s W (by omega) (by omega))
  have HP2 := Lib.hid (fun W : World => power_any t e W ht2 (by omega))
  have hp1 := Fld.pow_lt 37 s
  have hp2 := Fld.pow_lt t e
  obtain ⟨p, hp⟩ : ∃ p, p = Fld.pow 37 s := ⟨_, rfl⟩
  obtain ⟨q, hq⟩ : ∃ q, q = Fld.pow t e := ⟨_, rfl⟩
  rw [← hp] at HP1 hp1 ⊢
  rw [← hq] at HP2 hp2 ⊢
  have HX := Lib.hid (fun W : World => mul_any r q W (by omega) (by omega))
  have hxl := Fld.mul_lt r q
  obtain ⟨x, hx⟩ : ∃ x, x = Fld.mul r q := ⟨_, rfl⟩
  rw [← hx] at HX hxl ⊢
  have hb1 : decide ((2305843009213693950 : Int) ≤ (s : Int)) = false := decide_eq_false (by omega)
  obtain ⟨v, hv⟩ : ∃ v : Bool, v = ((p : Int) == (x : Int)) := ⟨_, rfl⟩
  have HV := Lib.hid hv
  rw [← hv]
  clear hm he hp hq hx hv hn hml ht1 hr1
  have hS0 := blk_new w 28 #[.int .u64 (r : Int), .int .u64 (s : Int)]
  have hk0 : Below w.heap.size w (w.alloc (.cells #[.int .u64 (r : Int), .int .u64 (s : Int)] 28)) := (Below.refl _ w).alloc (Nat.le_refl _) _
  have hs0 : (w.alloc (.cells #[.int .u64 (r : Int), .int .u64 (s : Int)] 28)).heap.size = w.heap.size + 1 := by simp
  have HB0 := Lib.hid (hb.new (.cells #[.int .u64 (r : Int), .int .u64 (s : Int)] 28))
  obtain ⟨w0, hw0⟩ : ∃ w0, w0 = w.alloc (.cells #[.int .u64 (r : Int), .int .u64 (s : Int)] 28) := ⟨_, rfl⟩
  rw [← hw0] at hS0 hk0 hs0 HB0
  have r0 := hS0.cell 0
  have r1 := hS0.cell 1
  have HK0 := Lib.hid hk0
  have HS0 := Lib.hid hS0
  have HL := Lib.hid (show w.heap.size < w0.heap.size by omega)
  clear hS0 hk0 hs0 hb
  go_enter Try.func18, Try.ntmps18
  go_wp2_with fail
  rw [← hw0]
  clear hw0
  refine (HT.out _).mono ?_
  rintro e w1 ⟨rfl, rfl⟩
  go_wp2_with fail
  refine (HR.out _).mono ?_
  rintro e w1 ⟨rfl, rfl⟩
  have k0 : w0.cell? ⟨w.heap.size, 0, none⟩ = some (.int .u64 (r : Int)) ∧ w0.cell? ⟨w.heap.size, 1, none⟩ = some (.int .u64 (s : Int)) := ⟨r0, r1⟩
  have k0' : w0.drew.cell? ⟨w.heap.size, 0, none⟩ = some (.int .u64 (r : Int)) ∧ w0.drew.cell? ⟨w.heap.size, 1, none⟩ = some (.int .u64 (s : Int)) := ⟨r0, r1⟩
  clear r1
  go_wp2_with fail
  clear r0
  go_region_held3 (fun w' : World => w'.cell? ⟨w.heap.size, 0, none⟩ = some (.int .u64 (r : Int)) ∧ w'.cell? ⟨w.heap.size, 1, none⟩ = some (.int .u64 (s : Int)))
    ((first | with_reducible exact k0 | with_reducible exact k0' | with_reducible exact k1 | with_reducible exact k2 | with_reducible exact k3 | with_reducible exact k4))
    (first
      | (go_at_call 27; ((with_reducible refine (HP1.out _).mono ?_); rintro e w1 ⟨rfl, hb1'⟩; have hc1 := below_of_drew hb1'; clear hb1'; have HS1 := Lib.hid (HS0.out.below hc1 HL.out); have HB1 := Lib.hid (HB0.out.below hc1); have k1 := sig_cells HS1.out))
      | (go_at_call 27; ((with_reducible refine (HP2.out _).mono ?_); rintro e w4 ⟨rfl, hc4⟩; have HS4 := Lib.hid (HS3.out.below hc4 HS3.out.lt); have k4 := sig_cells HS4.out))
      | (go_at_call 25; ((with_reducible refine (HM.out _ HB1.out).mono ?_); rintro e w2 ⟨rfl, hc2⟩; have HS2 := Lib.hid (HS1.out.below hc2 HS1.out.lt); have k2 := sig_cells HS2.out))
      | (go_at_call 29; ((with_reducible refine (HA.out _).mono ?_); rintro e w3 ⟨rfl, hc3⟩; have HS3 := Lib.hid (HS2.out.below hc3 HS2.out.lt); have k3 := sig_cells HS3.out))
      | (go_at_call 22; ((with_reducible refine (HX.out _).mono ?_); rintro e w5 ⟨rfl, rfl⟩)))
  go_wp2
  go_ret
  exact ⟨by rw [HV.out]; rfl, HK0.out.trans ((kept_trans (kept_trans (kept_trans hc1 hc2) hc3) hc4).mono (Nat.le_of_lt HL.out))⟩

/-- Check tells what the document says, of any numbers. -/
theorem check_any {w : World} {A : Option Addr} {n c : Nat} {l : List UInt8} (hb : Bt w A n c l) (hn : n ≤ 1000000) (t r s : Nat) (ht : t < 18446744073709551616) (hr : r < 18446744073709551616) (hs : s < 18446744073709551616) :
    Calls Try.prog 18 #[.int .u64 t, .slice A n c, .agg #[.int .u64 r, .int .u64 s]] w fun e w' => e = .returned (.bool (Sg.chk t (Sg.msg l) r s)) ∧ Below w.heap.size w w' := by
  by_cases h : Sg.Rng t r s
  · rw [Sg.chk_eqn h]
    exact check_in hb hn t r s h
  · rw [Sg.chk_not h]
    exact check_not t r s ht hr hs h

end Go.Proofs.Ytdiacpadbndncaa
