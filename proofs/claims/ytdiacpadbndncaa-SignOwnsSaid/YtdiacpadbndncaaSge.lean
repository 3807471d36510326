/-
  Package sign: Sign and Check tell the document's; what was there is left as it was. Secrets and public keys, and what a signature has, of 64 bits; bytes that can be read, up to 10^6 of them.
-/
import Derived.Test.YtdiacpadbndncaaSgd
namespace Go.Proofs.Ytdiacpadbndncaa
open Go.RowKit

set_option maxRecDepth 100000 in
set_option maxHeartbeats 2000000 in
theorem sign_any {w : World} {A : Option Addr} {n c : Nat} {l : List UInt8} (h : Bt w A n c l) (hn : n ≤ 1000000) (s : Nat) (hs : s < 18446744073709551616) :
    Calls Try.prog 14 #[.int .u64 s, .slice A n c] w fun e w' => e = .returned (.agg #[.int .u64 (Sg.R s (Sg.msg l) : Nat), .int .u64 (Sg.S s (Sg.msg l) : Nat)]) ∧ Below w.heap.size w w' := by
  have HM := Lib.hid (fun (W : World) (h : Bt W A n c l) => message_any h hn)
  have hml := Sg.msg_lt l
  obtain ⟨m, hm⟩ : ∃ m, m = Sg.msg l := ⟨_, rfl⟩
  rw [← hm] at HM hml ⊢
  have HO := Lib.hid (fun W : World => secret_new ⟨#[110, 111, 110, 99, 101]⟩ [s, m] 2 W (by decide) rfl (by simp) (by
    intro x hx
    simp only [List.mem_cons, List.not_mem_nil, or_false] at hx
    rcases hx with rfl | rfl <;> omega))
  have HO' : Hid (∀ W : World, Calls Try.prog 26 #[.string ⟨#[110, 111, 110, 99, 101]⟩, .slice (some ⟨W.heap.size, 0, none⟩) 2 2] (W.alloc (.cells #[.int .u64 (s : Int), .int .u64 (m : Int)] 22)) fun e w' => e = .returned (.int .u64 (Sg.once s m : Nat)) ∧ Below W.heap.size W w') := Lib.hid (fun W => HO.out W)
  clear HO
  have hol := (Sg.once_range s m).2
  have eR : Sg.R s m = Fld.pow 37 (Sg.once s m) := rfl
  have eS : Sg.S s m = Sg.ans (Sg.once s m) (Sg.ask (Sg.R s m) (Bx.pub s) m) s := rfl
  rw [eS]
  obtain ⟨o, ho⟩ : ∃ o, o = Sg.once s m := ⟨_, rfl⟩
  rw [← ho] at HO' hol eR ⊢
  have hrl := Sg.R_lt s m
  have HPW := Lib.hid (fun W : World => power_any 37 o W (by omega) (by omega))
  rw [← eR] at HPW
  obtain ⟨r, hr⟩ : ∃ r, r = Sg.R s m := ⟨_, rfl⟩
  rw [← hr] at HPW hrl ⊢
  have HPB := Lib.hid (fun W : World => spub_any s W hs)
  have hpl := Bx.pub_lt s
  obtain ⟨t, ht⟩ : ∃ t, t = Bx.pub s := ⟨_, rfl⟩
  rw [← ht] at HPB hpl ⊢
  have HA := Lib.hid (fun W : World => asked_any r t m W (by omega) (by omega) (by omega))
  have hel := Sg.ask_lt r t m
  obtain ⟨e, he⟩ : ∃ e, e = Sg.ask r t m := ⟨_, rfl⟩
  rw [← he] at HA hel ⊢
  have HC := Lib.hid (fun (W : World) (Bm Bo Bs : Nat) (h : Sc W Bm Bo Bs o s) => closure_any e o s Bm Bo Bs W (by omega) (by omega) hs h)
  obtain ⟨a, ha⟩ : ∃ a, a = Sg.ans o e s := ⟨_, rfl⟩
  rw [← ha] at HC ⊢
  clear hm ho hr ht he ha eR eS
  have hR0 := blk_new w 28 #[.int .u64 0, .int .u64 0]
  have hk0 : Below w.heap.size w (w.alloc (.cells #[.int .u64 0, .int .u64 0] 28)) := (Below.refl _ w).alloc (Nat.le_refl _) _
  have hs0 : (w.alloc (.cells #[.int .u64 0, .int .u64 0] 28)).heap.size = w.heap.size + 1 := by simp
  have HB0 := Lib.hid (h.new (.cells #[.int .u64 0, .int .u64 0] 28))
  obtain ⟨w0, hw0⟩ : ∃ w0, w0 = w.alloc (.cells #[.int .u64 0, .int .u64 0] 28) := ⟨_, rfl⟩
  clear h hn
  go_enter Try.func14, Try.ntmps14
  go_wp2_with fail
  rw [← hw0] at hR0 hk0 hs0 HB0 ⊢
  clear hw0
  refine (HM.out _ HB0.out).mono ?_
  rintro r1 w1 ⟨rfl, hb1⟩
  go_wp2_with fail
  refine (HO'.out _).mono ?_
  rintro r1 w2 ⟨rfl, hb2⟩
  go_wp2_with fail
  refine (HPW.out _).mono ?_
  rintro r1 w3 ⟨rfl, hb3⟩
  go_wp2_with fail
  refine (answering_any o s w3).mono ?_
  rintro r1 w4 ⟨⟨Bm, Bo, Bs, rfl, hcl⟩, hb4⟩
  have HCL := Lib.hid hcl
  clear hcl
  go_wp2_with fail
  refine (HPB.out _).mono ?_
  rintro r1 w5 ⟨rfl, hb5⟩
  go_wp2_with fail
  refine (HA.out _).mono ?_
  rintro r1 w6 ⟨rfl, hb6⟩
  have HCC := Lib.hid (HC.out w6 _ _ _ (HCL.out.below (kept_trans hb5 hb6)))
  have h06 : Below w0.heap.size w0 w6 := kept_trans (kept_trans (kept_trans (kept_trans (kept_trans hb1 hb2) hb3) hb4) hb5) hb6
  have hR6 := hR0.below h06 (by omega)
  have hk6 : Below w.heap.size w w6 := hk0.trans (h06.mono (by omega))
  have hs6 := h06.size
  clear hb1 hb2 hb3 hb4 hb5 hb6 hR0 hk0 h06 HCL
  go_wp2_with fail
  refine (HCC.out).mono ?_
  rintro r1 w7 ⟨rfl, hb7⟩
  have hs7 := hb7.size
  have hR7 := hR6.below hb7 (by omega)
  have hk7 : Below w.heap.size w w7 := hk6.trans (hb7.mono (by omega))
  have r0 := hR7.cell 0
  have r1 := hR7.cell 1
  have f0 := hR7.frozen 0
  have f1 := hR7.frozen 1
  have HR8 := Lib.hid (Sg.blk_set2 hR7 (.int .u64 (r : Int)) (.int .u64 (a : Int)))
  have HK8 := Lib.hid (hk7.trans (Sg.below_set2 (w := w7) (R := w.heap.size) (n := w.heap.size) (.int .u64 (r : Int)) (.int .u64 (a : Int)) (Nat.le_refl _) (by omega)))
  clear hb7 hR7 hk7 hR6 hk6
  go_wp2
  have c0 := HR8.out.cell 0
  have c1 := HR8.out.cell 1
  unfold Sg.set2 at c0 c1
  refine bodyPost_ret (v := .agg #[.int .u64 (r : Int), .int .u64 (a : Int)]) (by simp [results, Try.results14, go_sem, c0, c1]) rfl ⟨rfl, HK8.out⟩

theorem ispower_any (n : Nat) (w : World) (hn : n < 18446744073709551616) :
    Calls Try.prog 34 #[.int .u64 n] w fun e w' => e = .returned (.bool (decide (1 ≤ n ∧ n < 2305843009213693951))) ∧ w = w' := by
  by_cases h0 : n = 0
  · subst h0
    go_enter Try.func34, Try.ntmps34
    go_wp2
    go_ret
    exact ⟨rfl, rfl⟩
  · have h1 : 0 < n := by omega
    have H := Lib.hid (fun W => ok_any n W)
    have e : decide (1 ≤ n ∧ n < 2305843009213693951) = decide (n < 2305843009213693951) := by
      by_cases h : n < 2305843009213693951
      · rw [decide_eq_true h, decide_eq_true (⟨by omega, h⟩ : 1 ≤ n ∧ n < 2305843009213693951)]
      · rw [decide_eq_false h, decide_eq_false (fun k : 1 ≤ n ∧ n < 2305843009213693951 => h k.2)]
    rw [e]
    generalize decide (n < 2305843009213693951) = b at H ⊢
    clear e h0 hn
    go_enter Try.func34, Try.ntmps34
    go_wp2_with fail
    refine (H.out _).mono ?_
    rintro e w1 ⟨rfl, rfl⟩
    go_wp2
    go_ret
    exact ⟨rfl, rfl⟩

/-! ### Check: a number that is none of its range -/
set_option maxRecDepth 100000 in
set_option maxHeartbeats 2000000 in
theorem check_not {w : World} {A : Option Addr} {n c : Nat} (t r s : Nat) (ht : t < 18446744073709551616) (hr : r < 18446744073709551616) (hs : s < 18446744073709551616) (h : ¬ Sg.Rng t r s) :
    Calls Try.prog 18 #[.int .u64 t, .slice A n c, .agg #[.int .u64 r, .int .u64 s]] w fun e w' => e = .returned (.bool false) ∧ Below w.heap.size w w' := by
  have HT := Lib.hid (fun W => ispower_any t W ht)
  have HR := Lib.hid (fun W => ispower_any r W hr)
  have hall : ¬ (decide (1 ≤ t ∧ t < 2305843009213693951) = true ∧ decide (1 ≤ r ∧ r < 2305843009213693951) = true ∧ s < 2305843009213693950) := by
    rintro ⟨h1, h2, h3⟩
    have h1 := of_decide_eq_true h1
    have h2 := of_decide_eq_true h2
    exact h ⟨h1.1, h1.2, h2.1, h2.2, h3⟩
  generalize decide (1 ≤ t ∧ t < 2305843009213693951) = x at HT hall
  generalize decide (1 ≤ r ∧ r < 2305843009213693951) = y at HR hall
  have hS0 := blk_new w 28 #[.int .u64 (r : Int), .int .u64 (s : Int)]
  have hk0 : Below w.heap.size w (w.alloc (.cells #[.int .u64 (r : Int), .int .u64 (s : Int)] 28)) := (Below.refl _ w).alloc (Nat.le_refl _) _
  obtain ⟨w0, hw0⟩ : ∃ w0, w0 = w.alloc (.cells #[.int .u64 (r : Int), .int .u64 (s : Int)] 28) := ⟨_, rfl⟩
  rw [← hw0] at hS0 hk0
  have r0 := hS0.cell 0
  have r1 := hS0.cell 1
  have HK0 := Lib.hid hk0
  clear hS0 hk0 h
  cases x
  · clear hall
    go_enter Try.func18, Try.ntmps18
    go_wp2_with fail
    rw [← hw0]
    clear hw0
    refine (HT.out _).mono ?_
    rintro e w1 ⟨rfl, rfl⟩
    go_wp2
    go_ret
    exact ⟨rfl, HK0.out⟩
  · cases y
    · clear hall
      go_enter Try.func18, Try.ntmps18
      go_wp2_with fail
      rw [← hw0]
      clear hw0
      refine (HT.out _).mono ?_
      rintro e w1 ⟨rfl, rfl⟩
      go_wp2_with fail
      refine (HR.out _).mono ?_
      rintro e w1 ⟨rfl, rfl⟩
      go_wp2
      go_ret
      exact ⟨rfl, HK0.out⟩
    · have hs1 : ¬ s < 2305843009213693950 := fun k => hall ⟨rfl, rfl, k⟩
      have hb : decide ((2305843009213693950 : Int) ≤ (s : Int)) = true := decide_eq_true (by omega)
      clear hall hs1
      go_enter Try.func18, Try.ntmps18
      go_wp2_with fail
      rw [← hw0]
      clear hw0
      refine (HT.out _).mono ?_
      rintro e w1 ⟨rfl, rfl⟩
      go_wp2_with fail
      refine (HR.out _).mono ?_
      rintro e w1 ⟨rfl, rfl⟩
      go_wp2
      go_ret
      exact ⟨rfl, HK0.out⟩

end Go.Proofs.Ytdiacpadbndncaa
