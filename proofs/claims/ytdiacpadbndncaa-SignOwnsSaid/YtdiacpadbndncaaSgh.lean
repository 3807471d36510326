/-
  The reference's Sign and Check of chapter 8 tell the same; what was there is left as it was. Numbers of 64 bits, bytes that can be read, up to 10^6 of them.
-/
import Derived.Test.YtdiacpadbndncaaSgg
namespace Go.Proofs.Ytdiacpadbndncaa
open Go.RowKit

set_option maxRecDepth 100000 in
set_option maxHeartbeats 2000000 in
theorem r8sign_any {w : World} {A : Option Addr} {n c : Nat} {l : List UInt8} (h : Bt w A n c l) (hn : n ≤ 1000000) (s : Nat) (hs : s < 18446744073709551616) :
    Calls Try.prog 15 #[.int .u64 s, .slice A n c] w fun e w' => e = .returned (.agg #[.int .u64 (Sg.R s (Sg.msg l) : Nat), .int .u64 (Sg.S s (Sg.msg l) : Nat)]) ∧ Below w.heap.size w w' := by
  have HM := Lib.hid (fun (W : World) (h : Bt W A n c l) => r8m_any h hn)
  have HA := Lib.hid (fun (W : World) (h : Bt W A n c l) (r t : Nat) => r8e_any h hn r t)
  have hml := Sg.msg_lt l
  obtain ⟨m, hm⟩ : ∃ m, m = Sg.msg l := ⟨_, rfl⟩
  rw [← hm] at HM HA hml ⊢
  have HO' : Hid (∀ W : World, Calls Try.prog 30 #[.string ⟨#[110, 111, 110, 99, 101]⟩, .slice (some ⟨W.heap.size, 0, none⟩) 2 2] (W.alloc (.cells #[.int .u64 (s : Int), .int .u64 (m : Int)] 22)) fun e w' => e = .returned (.int .u64 (Sg.once s m : Nat)) ∧ Below W.heap.size W w') :=
    Lib.hid (fun W => (rsecret_any ⟨#[110, 111, 110, 99, 101]⟩ [s, m] _ 2 2 _ (by decide) rfl (by omega) (Bx.news W [s, m])).mono fun _ _ ⟨h, hb⟩ => ⟨h, Bx.below_new hb⟩)
  have hol := (Sg.once_range s m).2
  have eR : Sg.R s m = Fld.pow 37 (Sg.once s m) := rfl
  have eS : Sg.S s m = Sg.ans (Sg.once s m) (Sg.ask (Sg.R s m) (Bx.pub s) m) s := rfl
  rw [eS]
  obtain ⟨o, ho⟩ : ∃ o, o = Sg.once s m := ⟨_, rfl⟩
  rw [← ho] at HO' hol eR ⊢
  have hrl := Sg.R_lt s m
  have HPW : Hid (∀ W : World, Calls Try.prog 24 #[.int .u64 37, .int .u64 (o : Int)] W fun e w' => e = .returned (.int .u64 (Fld.pow 37 o : Nat)) ∧ Below W.heap.size W w') := Lib.hid (fun W : World => rpow_any 37 o W (by omega))
  rw [← eR] at HPW
  obtain ⟨r, hr⟩ : ∃ r, r = Sg.R s m := ⟨_, rfl⟩
  rw [← hr] at HPW hrl ⊢
  have HPB := Lib.hid (fun W : World => r8pub_any s W hs)
  have hpl := Bx.pub_lt s
  obtain ⟨t, ht⟩ : ∃ t, t = Bx.pub s := ⟨_, rfl⟩
  rw [← ht] at HPB hpl ⊢
  have hel := Sg.ask_lt r t m
  have HA' := Lib.hid (fun (W : World) (h : Bt W A n c l) => HA.out W h r t)
  obtain ⟨e, he⟩ : ∃ e, e = Sg.ask r t m := ⟨_, rfl⟩
  rw [← he] at HA' hel ⊢
  have HTM := Lib.hid (fun W : World => times_any e s W)
  have hxl : e * s % 2305843009213693950 < 2305843009213693950 := Nat.mod_lt _ (by omega)
  have hans : Sg.ans o e s = (o + e * s % 2305843009213693950) % 2305843009213693950 := rfl
  obtain ⟨x, hx⟩ : ∃ x, x = e * s % 2305843009213693950 := ⟨_, rfl⟩
  rw [← hx] at HTM hxl hans
  obtain ⟨a, ha⟩ : ∃ a, a = Sg.ans o e s := ⟨_, rfl⟩
  rw [← ha] at hans ⊢
  have g1 : ((o : Int) + (x : Int)) % 2305843009213693950 = (a : Int) := by omega
  have HORD := Lib.hid order_any
  clear hm ho hr ht he hx ha hans eR eS HA
  have hR0 := blk_new w 28 #[.int .u64 0, .int .u64 0]
  have hk0 : Below w.heap.size w (w.alloc (.cells #[.int .u64 0, .int .u64 0] 28)) := (Below.refl _ w).alloc (Nat.le_refl _) _
  have hs0 : (w.alloc (.cells #[.int .u64 0, .int .u64 0] 28)).heap.size = w.heap.size + 1 := by simp
  have HB0 := Lib.hid (h.new (.cells #[.int .u64 0, .int .u64 0] 28))
  obtain ⟨w0, hw0⟩ : ∃ w0, w0 = w.alloc (.cells #[.int .u64 0, .int .u64 0] 28) := ⟨_, rfl⟩
  clear h hn
  go_enter Try.func15, Try.ntmps15
  go_wp2_with fail
  rw [← hw0] at hR0 hk0 hs0 HB0 ⊢
  clear hw0
  refine (HM.out _ HB0.out).mono ?_
  rintro r1 w1 ⟨rfl, hb1⟩
  go_wp2_with fail
  refine (HO'.out _).mono ?_
  rintro r1 w2 ⟨rfl, hb2⟩
  go_wp2_with fail
  refine (HPW.out _).mono ?_
  rintro r1 w3 ⟨rfl, hb3⟩
  go_wp2_with fail
  refine (HPB.out _).mono ?_
  rintro r1 w4 ⟨rfl, hb4⟩
  have HB4 := Lib.hid (HB0.out.below (kept_trans (kept_trans (kept_trans hb1 hb2) hb3) hb4))
  go_wp2_with fail
  refine (HA'.out _ HB4.out).mono ?_
  rintro r1 w5 ⟨rfl, hb5⟩
  go_wp2_with fail
  refine (HTM.out _).mono ?_
  rintro r1 w6 ⟨rfl, rfl⟩
  go_wp2_with fail
  refine (HORD.out _).mono ?_
  rintro r1 w6 ⟨rfl, rfl⟩
  have h05 : Below w0.heap.size w0 w5 := kept_trans (kept_trans (kept_trans (kept_trans hb1 hb2) hb3) hb4) hb5
  have hR5 := hR0.below h05 (by omega)
  have hk5 : Below w.heap.size w w5 := hk0.trans (h05.mono (by omega))
  have hs5 := h05.size
  have r0 := hR5.cell 0
  have r1 := hR5.cell 1
  have f0 := hR5.frozen 0
  have f1 := hR5.frozen 1
  have HR8 := Lib.hid (Sg.blk_set2 hR5 (.int .u64 (r : Int)) (.int .u64 (a : Int)))
  have HK8 := Lib.hid (hk5.trans (Sg.below_set2 (w := w5) (R := w.heap.size) (n := w.heap.size) (.int .u64 (r : Int)) (.int .u64 (a : Int)) (Nat.le_refl _) (by omega)))
  clear hb1 hb2 hb3 hb4 hb5 hR0 hk0 h05 hR5 hk5
  go_wp2
  have c0 := HR8.out.cell 0
  have c1 := HR8.out.cell 1
  unfold Sg.set2 at c0 c1
  first
    | refine bodyPost_ret (v := .agg #[.int .u64 (r : Int), .int .u64 (a : Int)]) (by simp [results, Try.results15, go_sem, c0, c1]) rfl ⟨rfl, HK8.out⟩
    | (rw [g1]; refine bodyPost_ret (v := .agg #[.int .u64 (r : Int), .int .u64 (a : Int)]) (by simp [results, Try.results15, go_sem, c0, c1]) rfl ⟨rfl, HK8.out⟩)

/-! ### Check -/
set_option maxRecDepth 100000 in
set_option maxHeartbeats 4000000 in
theorem r8check_not1 {w : World} {A : Option Addr} {n c : Nat} (t r s : Nat) (b1 : decide ((t : Int) < 1) = true) :
    Calls Try.prog 19 #[.int .u64 (t : Int), .slice A n c, .agg #[.int .u64 (r : Int), .int .u64 (s : Int)]] w fun e w' => e = .returned (.bool false) ∧ Below w.heap.size w w' := by
  have HO := Lib.hid order_any
  have hS0 := blk_new w 28 #[.int .u64 (r : Int), .int .u64 (s : Int)]
  have HK0 := Lib.hid (show Below w.heap.size w (w.alloc (.cells #[.int .u64 (r : Int), .int .u64 (s : Int)] 28)) from (Below.refl _ w).alloc (Nat.le_refl _) _)
  obtain ⟨w0, hw0⟩ : ∃ w0, w0 = w.alloc (.cells #[.int .u64 (r : Int), .int .u64 (s : Int)] 28) := ⟨_, rfl⟩
  rw [← hw0] at hS0 HK0
  have k0 : w0.cell? ⟨w.heap.size, 0, none⟩ = some (.int .u64 (r : Int)) ∧ w0.cell? ⟨w.heap.size, 1, none⟩ = some (.int .u64 (s : Int)) := sig_cells hS0
  have k0' : w0.drew.cell? ⟨w.heap.size, 0, none⟩ = some (.int .u64 (r : Int)) ∧ w0.drew.cell? ⟨w.heap.size, 1, none⟩ = some (.int .u64 (s : Int)) := k0
  clear hS0
  go_enter Try.func19, Try.ntmps19
  go_wp2_with fail
  rw [← hw0]
  clear hw0
  have r0 := k0.1
  have r1 := k0.2
  clear k0 k0'
  have HQ : Hid (∀ W : World, Calls Try.prog 23 #[] W fun e w' => e = .returned (.int .u64 2305843009213693950) ∧ w' = W) := Lib.hid fun W => (HO.out W).mono fun _ _ ⟨h, e⟩ => ⟨h, e.symm⟩
  go_quiet ((go_at_call 23; exact Calls.quiet_of_same (HQ.out _)))
  go_wp2
  go_ret
  exact ⟨rfl, below_drewN HK0.out _⟩

set_option maxRecDepth 100000 in
set_option maxHeartbeats 4000000 in
theorem r8check_not2 {w : World} {A : Option Addr} {n c : Nat} (t r s : Nat) (b1 : decide ((t : Int) < 1) = false) (b2 : decide ((2305843009213693950 : Int) < (t : Int)) = true) :
    Calls Try.prog 19 #[.int .u64 (t : Int), .slice A n c, .agg #[.int .u64 (r : Int), .int .u64 (s : Int)]] w fun e w' => e = .returned (.bool false) ∧ Below w.heap.size w w' := by
  have HO := Lib.hid order_any
  have hS0 := blk_new w 28 #[.int .u64 (r : Int), .int .u64 (s : Int)]
  have HK0 := Lib.hid (show Below w.heap.size w (w.alloc (.cells #[.int .u64 (r : Int), .int .u64 (s : Int)] 28)) from (Below.refl _ w).alloc (Nat.le_refl _) _)
  obtain ⟨w0, hw0⟩ : ∃ w0, w0 = w.alloc (.cells #[.int .u64 (r : Int), .int .u64 (s : Int)] 28) := ⟨_, rfl⟩
  rw [← hw0] at hS0 HK0
  have k0 : w0.cell? ⟨w.heap.size, 0, none⟩ = some (.int .u64 (r : Int)) ∧ w0.cell? ⟨w.heap.size, 1, none⟩ = some (.int .u64 (s : Int)) := sig_cells hS0
  have k0' : w0.drew.cell? ⟨w.heap.size, 0, none⟩ = some (.int .u64 (r : Int)) ∧ w0.drew.cell? ⟨w.heap.size, 1, none⟩ = some (.int .u64 (s : Int)) := k0
  clear hS0
  go_enter Try.func19, Try.ntmps19
  go_wp2_with fail
  rw [← hw0]
  clear hw0
  have r0 := k0.1
  have r1 := k0.2
  clear k0 k0'
  have HQ : Hid (∀ W : World, Calls Try.prog 23 #[] W fun e w' => e = .returned (.int .u64 2305843009213693950) ∧ w' = W) := Lib.hid fun W => (HO.out W).mono fun _ _ ⟨h, e⟩ => ⟨h, e.symm⟩
  go_quiet ((go_at_call 23; exact Calls.quiet_of_same (HQ.out _)))
  go_wp2
  go_ret
  exact ⟨rfl, below_drewN HK0.out _⟩

set_option maxRecDepth 100000 in
set_option maxHeartbeats 4000000 in
theorem r8check_not3 {w : World} {A : Option Addr} {n c : Nat} (t r s : Nat) (b1 : decide ((t : Int) < 1) = false) (b2 : decide ((2305843009213693950 : Int) < (t : Int)) = false) (b3 : decide ((r : Int) < 1) = true) :
    Calls Try.prog 19 #[.int .u64 (t : Int), .slice A n c, .agg #[.int .u64 (r : Int), .int .u64 (s : Int)]] w fun e w' => e = .returned (.bool false) ∧ Below w.heap.size w w' := by
  have HO := Lib.hid order_any
  have hS0 := blk_new w 28 #[.int .u64 (r : Int), .int .u64 (s : Int)]
  have HK0 := Lib.hid (show Below w.heap.size w (w.alloc (.cells #[.int .u64 (r : Int), .int .u64 (s : Int)] 28)) from (Below.refl _ w).alloc (Nat.le_refl _) _)
  obtain ⟨w0, hw0⟩ : ∃ w0, w0 = w.alloc (.cells #[.int .u64 (r : Int), .int .u64 (s : Int)] 28) := ⟨_, rfl⟩
  rw [← hw0] at hS0 HK0
  have k0 : w0.cell? ⟨w.heap.size, 0, none⟩ = some (.int .u64 (r : Int)) ∧ w0.cell? ⟨w.heap.size, 1, none⟩ = some (.int .u64 (s : Int)) := sig_cells hS0
  have k0' : w0.drew.cell? ⟨w.heap.size, 0, none⟩ = some (.int .u64 (r : Int)) ∧ w0.drew.cell? ⟨w.heap.size, 1, none⟩ = some (.int .u64 (s : Int)) := k0
  clear hS0
  go_enter Try.func19, Try.ntmps19
  go_wp2_with fail
  rw [← hw0]
  clear hw0
  have r0 := k0.1
  have r1 := k0.2
  clear k0 k0'
  have HQ : Hid (∀ W : World, Calls Try.prog 23 #[] W fun e w' => e = .returned (.int .u64 2305843009213693950) ∧ w' = W) := Lib.hid fun W => (HO.out W).mono fun _ _ ⟨h, e⟩ => ⟨h, e.symm⟩
  go_quiet ((go_at_call 23; exact Calls.quiet_of_same (HQ.out _)))
  go_wp2
  go_ret
  exact ⟨rfl, below_drewN HK0.out _⟩

set_option maxRecDepth 100000 in
set_option maxHeartbeats 4000000 in
theorem r8check_not4 {w : World} {A : Option Addr} {n c : Nat} (t r s : Nat) (b1 : decide ((t : Int) < 1) = false) (b2 : decide ((2305843009213693950 : Int) < (t : Int)) = false) (b3 : decide ((r : Int) < 1) = false) (b4 : decide ((2305843009213693950 : Int) < (r : Int)) = true) :
    Calls Try.prog 19 #[.int .u64 (t : Int), .slice A n c, .agg #[.int .u64 (r : Int), .int .u64 (s : Int)]] w fun e w' => e = .returned (.bool false) ∧ Below w.heap.size w w' := by
  have HO := Lib.hid order_any
  have hS0 := blk_new w 28 #[.int .u64 (r : Int), .int .u64 (s : Int)]
  have HK0 := Lib.hid (show Below w.heap.size w (w.alloc (.cells #[.int .u64 (r : Int), .int .u64 (s : Int)] 28)) from (Below.refl _ w).alloc (Nat.le_refl _) _)
  obtain ⟨w0, hw0⟩ : ∃ w0, w0 = w.alloc (.cells #[.int .u64 (r : Int), .int .u64 (s : Int)] 28) := ⟨_, rfl⟩
  rw [← hw0] at hS0 HK0
  have k0 : w0.cell? ⟨w.heap.size, 0, none⟩ = some (.int .u64 (r : Int)) ∧ w0.cell? ⟨w.heap.size, 1, none⟩ = some (.int .u64 (s : Int)) := sig_cells hS0
  have k0' : w0.drew.cell? ⟨w.heap.size, 0, none⟩ = some (.int .u64 (r : Int)) ∧ w0.drew.cell? ⟨w.heap.size, 1, none⟩ = some (.int .u64 (s : Int)) := k0
  clear hS0
  go_enter Try.func19, Try.ntmps19
  go_wp2_with fail
  rw [← hw0]
  clear hw0
  have r0 := k0.1
  have r1 := k0.2
  clear k0 k0'
  have HQ : Hid (∀ W : World, Calls Try.prog 23 #[] W fun e w' => e = .returned (.int .u64 2305843009213693950) ∧ w' = W) := Lib.hid fun W => (HO.out W).mono fun _ _ ⟨h, e⟩ => ⟨h, e.symm⟩
  go_quiet ((go_at_call 23; exact Calls.quiet_of_same (HQ.out _)))
  go_wp2
  go_ret
  exact ⟨rfl, below_drewN HK0.out _⟩

set_option maxRecDepth 100000 in
set_option maxHeartbeats 4000000 in
theorem r8check_not5 {w : World} {A : Option Addr} {n c : Nat} (t r s : Nat) (b1 : decide ((t : Int) < 1) = false) (b2 : decide ((2305843009213693950 : Int) < (t : Int)) = false) (b3 : decide ((r : Int) < 1) = false) (b4 : decide ((2305843009213693950 : Int) < (r : Int)) = false) (b5 : decide ((2305843009213693950 : Int) ≤ (s : Int)) = true) :
    Calls Try.prog 19 #[.int .u64 (t : Int), .slice A n c, .agg #[.int .u64 (r : Int), .int .u64 (s : Int)]] w fun e w' => e = .returned (.bool false) ∧ Below w.heap.size w w' := by
  have HO := Lib.hid order_any
  have hS0 := blk_new w 28 #[.int .u64 (r : Int), .int .u64 (s : Int)]
  have HK0 := Lib.hid (show Below w.heap.size w (w.alloc (.cells #[.int .u64 (r : Int), .int .u64 (s : Int)] 28)) from (Below.refl _ w).alloc (Nat.le_refl _) _)
  obtain ⟨w0, hw0⟩ : ∃ w0, w0 = w.alloc (.cells #[.int .u64 (r : Int), .int .u64 (s : Int)] 28) := ⟨_, rfl⟩
  rw [← hw0] at hS0 HK0
  have k0 : w0.cell? ⟨w.heap.size, 0, none⟩ = some (.int .u64 (r : Int)) ∧ w0.cell? ⟨w.heap.size, 1, none⟩ = some (.int .u64 (s : Int)) := sig_cells hS0
  have k0' : w0.drew.cell? ⟨w.heap.size, 0, none⟩ = some (.int .u64 (r : Int)) ∧ w0.drew.cell? ⟨w.heap.size, 1, none⟩ = some (.int .u64 (s : Int)) := k0
  clear hS0
  go_enter Try.func19, Try.ntmps19
  go_wp2_with fail
  rw [← hw0]
  clear hw0
  go_region_held3 (fun w' : World => w'.cell? ⟨w.heap.size, 0, none⟩ = some (.int .u64 (r : Int)) ∧ w'.cell? ⟨w.heap.size, 1, none⟩ = some (.int .u64 (s : Int)))
    ((first | with_reducible exact k0 | with_reducible exact k0'))
    (first
      | (go_at_call 23; ((with_reducible refine (HO.out _).mono ?_); rintro e w1 ⟨rfl, rfl⟩)))
  go_wp2
  go_ret
  exact ⟨rfl, below_drewN HK0.out 1⟩

set_option maxRecDepth 100000 in
set_option maxHeartbeats 4000000 in
theorem r8check_in {w : World} {A : Option Addr} {n c : Nat} {l : List UInt8} (hb : Bt w A n c l) (hn : n ≤ 1000000) (t r s : Nat) (hg : Sg.Rng t r s) :
    Calls Try.prog 19 #[.int .u64 (t : Int), .slice A n c, .agg #[.int .u64 (r : Int), .int .u64 (s : Int)]] w fun e w' => e = .returned (.bool (decide (Sg.Eqn t (Sg.msg l) r s))) ∧ Below w.heap.size w w' := by
  obtain ⟨ht1, ht2, hr1, hr2, hs⟩ := hg
  have HE := Lib.hid (fun (W : World) (h : Bt W A n c l) => r8e_any h hn r t)
  have eD : decide (Sg.Eqn t (Sg.msg l) r s) = ((Fld.pow 37 s : Int) == (Fld.mul r (Fld.pow t (Sg.ask r t (Sg.msg l))) : Int)) := by
    by_cases k : Fld.pow 37 s = Fld.mul r (Fld.pow t (Sg.ask r t (Sg.msg l)))
    · rw [decide_eq_true (show Sg.Eqn t (Sg.msg l) r s from k), k]; exact beq_self_eq_true _ |>.symm
    · rw [decide_eq_false (show ¬ Sg.Eqn t (Sg.msg l) r s from k)]
      symm
      rw [beq_eq_false_iff_ne]
      omega
  rw [eD]
  clear eD
  have hel := Sg.ask_lt r t (Sg.msg l)
  obtain ⟨e, he⟩ : ∃ e, e = Sg.ask r t (Sg.msg l) := ⟨_, rfl⟩
  rw [← he] at HE hel ⊢
  have HP1 : Hid (∀ W : World, Calls Try.prog 24 #[.int .u64 37, .int .u64 (s : Int)] W fun e w' => e = .returned (.int .u64 (Fld.pow 37 s : Nat)) ∧ Below W.heap.size W w') := Lib.hid (fun W : World => rpow_any 37 s W (by omega))
  have HP2 := Lib.hid (fun W : World => rpow_any t e W (by omega))
  have hp1 := Fld.pow_lt 37 s
  have hp2 := Fld.pow_lt t e
  obtain ⟨p, hp⟩ : ∃ p, p = Fld.pow 37 s := ⟨_, rfl⟩
  obtain ⟨q, hq⟩ : ∃ q, q = Fld.pow t e := ⟨_, rfl⟩
  rw [← hp] at HP1 hp1 ⊢
  rw [← hq] at HP2 hp2 ⊢
  have HX := Lib.hid (fun W : World => rmul_any r q W)
  have hxl := Fld.mul_lt r q
  obtain ⟨x, hx⟩ : ∃ x, x = Fld.mul r q := ⟨_, rfl⟩
  rw [← hx] at HX hxl ⊢
  have b1 : decide ((t : Int) < 1) = false := decide_eq_false (by omega)
  have b2 : decide ((2305843009213693950 : Int) < (t : Int)) = false := decide_eq_false (by omega)
  have b3 : decide ((r : Int) < 1) = false := decide_eq_false (by omega)
  have b4 : decide ((2305843009213693950 : Int) < (r : Int)) = false := decide_eq_false (by omega)
  have b5 : decide ((2305843009213693950 : Int) ≤ (s : Int)) = false := decide_eq_false (by omega)
  obtain ⟨v, hv⟩ : ∃ v : Bool, v = ((p : Int) == (x : Int)) := ⟨_, rfl⟩
  have HV := Lib.hid hv
  rw [← hv]
  clear he hp hq hx hv hn ht1 hr1 ht2 hr2 hs
  have HO := Lib.hid order_any
  have hS0 := blk_new w 28 #[.int .u64 (r : Int), .int .u64 (s : Int)]
  have HK0 := Lib.hid (show Below w.heap.size w (w.alloc (.cells #[.int .u64 (r : Int), .int .u64 (s : Int)] 28)) from (Below.refl _ w).alloc (Nat.le_refl _) _)
  obtain ⟨w0, hw0⟩ : ∃ w0, w0 = w.alloc (.cells #[.int .u64 (r : Int), .int .u64 (s : Int)] 28) := ⟨_, rfl⟩
  rw [← hw0] at hS0 HK0
  have k0 : w0.cell? ⟨w.heap.size, 0, none⟩ = some (.int .u64 (r : Int)) ∧ w0.cell? ⟨w.heap.size, 1, none⟩ = some (.int .u64 (s : Int)) := sig_cells hS0
  have k0' : w0.drew.cell? ⟨w.heap.size, 0, none⟩ = some (.int .u64 (r : Int)) ∧ w0.drew.cell? ⟨w.heap.size, 1, none⟩ = some (.int .u64 (s : Int)) := k0
  have hs0 : (w.alloc (.cells #[.int .u64 (r : Int), .int .u64 (s : Int)] 28)).heap.size = w.heap.size + 1 := by simp
  have HB0 := Lib.hid (hb.new (.cells #[.int .u64 (r : Int), .int .u64 (s : Int)] 28))
  rw [← hw0] at hs0 HB0
  have HS0 := Lib.hid hS0
  have HL := Lib.hid (show w.heap.size < w0.heap.size by omega)
  clear hS0 hs0 hb
  go_enter Try.func19, Try.ntmps19
  go_wp2_with fail
  rw [← hw0]
  clear hw0
  go_region_held3 (fun w' : World => w'.cell? ⟨w.heap.size, 0, none⟩ = some (.int .u64 (r : Int)) ∧ w'.cell? ⟨w.heap.size, 1, none⟩ = some (.int .u64 (s : Int)))
    ((first | with_reducible exact k0 | with_reducible exact k0'))
    (first
      | (go_at_call 23; ((with_reducible refine (HO.out _).mono ?_); rintro e w1 ⟨rfl, rfl⟩)))
  clear k0 k0'
  have K0 : Hid (w0.drew.cell? ⟨w.heap.size, 0, none⟩ = some (.int .u64 (r : Int)) ∧ w0.drew.cell? ⟨w.heap.size, 1, none⟩ = some (.int .u64 (s : Int))) := Lib.hid (sig_cells HS0.out)
  go_wp2_with fail
  have k0 := K0.out
  have k0' : w0.drew.drew.cell? ⟨w.heap.size, 0, none⟩ = some (.int .u64 (r : Int)) ∧ w0.drew.drew.cell? ⟨w.heap.size, 1, none⟩ = some (.int .u64 (s : Int)) := k0
  go_region_held3 (fun w' : World => w'.cell? ⟨w.heap.size, 0, none⟩ = some (.int .u64 (r : Int)) ∧ w'.cell? ⟨w.heap.size, 1, none⟩ = some (.int .u64 (s : Int)))
    ((first | with_reducible exact k0 | with_reducible exact k0' | with_reducible exact k1 | with_reducible exact k2 | with_reducible exact k3 | with_reducible exact k4))
    (first
      | (go_at_call 24; ((with_reducible refine (HP1.out _).mono ?_); rintro e w1 ⟨rfl, hb1'⟩; have hc1 := below_of_drew (below_of_drew hb1'); clear hb1'; have HS1 := Lib.hid (HS0.out.below hc1 HL.out); have HB1 := Lib.hid (HB0.out.below hc1); have k1 := sig_cells HS1.out))
      | (go_at_call 24; ((with_reducible refine (HP2.out _).mono ?_); rintro e w3 ⟨rfl, hc3⟩; have HS3 := Lib.hid (HS2.out.below hc3 HS2.out.lt); have k3 := sig_cells HS3.out))
      | (go_at_call 33; ((with_reducible refine (HE.out _ HB1.out).mono ?_); rintro e w2 ⟨rfl, hc2⟩; have HS2 := Lib.hid (HS1.out.below hc2 HS1.out.lt); have k2 := sig_cells HS2.out))
      | (go_at_call 35; ((with_reducible refine (HX.out _).mono ?_); rintro e w4 ⟨rfl, hc4⟩; have HS4 := Lib.hid (HS3.out.below hc4 HS3.out.lt); have k4 := sig_cells HS4.out)))
  go_wp2
  go_ret
  exact ⟨by rw [HV.out]; rfl, HK0.out.trans ((kept_trans (kept_trans (kept_trans hc1 hc2) hc3) hc4).mono (Nat.le_of_lt HL.out))⟩

theorem r8check_any {w : World} {A : Option Addr} {n c : Nat} {l : List UInt8} (hb : Bt w A n c l) (hn : n ≤ 1000000) (t r s : Nat) :
    Calls Try.prog 19 #[.int .u64 (t : Int), .slice A n c, .agg #[.int .u64 (r : Int), .int .u64 (s : Int)]] w fun e w' => e = .returned (.bool (Sg.chk t (Sg.msg l) r s)) ∧ Below w.heap.size w w' := by
  by_cases h : Sg.Rng t r s
  · rw [Sg.chk_eqn h]
    exact r8check_in hb hn t r s h
  · rw [Sg.chk_not h]
    by_cases h1 : t < 1
    · exact r8check_not1 t r s (decide_eq_true (by omega))
    · by_cases h2 : 2305843009213693950 < t
      · exact r8check_not2 t r s (decide_eq_false (by omega)) (decide_eq_true (by omega))
      · by_cases h3 : r < 1
        · exact r8check_not3 t r s (decide_eq_false (by omega)) (decide_eq_false (by omega)) (decide_eq_true (by omega))
        · by_cases h4 : 2305843009213693950 < r
          · exact r8check_not4 t r s (decide_eq_false (by omega)) (decide_eq_false (by omega)) (decide_eq_false (by omega)) (decide_eq_true (by omega))
          · by_cases h5 : 2305843009213693950 ≤ s
            · exact r8check_not5 t r s (decide_eq_false (by omega)) (decide_eq_false (by omega)) (decide_eq_false (by omega)) (decide_eq_false (by omega)) (decide_eq_true (by omega))
            · exact absurd ⟨by omega, by omega, by omega, by omega, by omega⟩ h

end Go.Proofs.Ytdiacpadbndncaa
