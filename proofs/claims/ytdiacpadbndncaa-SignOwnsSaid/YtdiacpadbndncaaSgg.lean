/-
  The reference's public keys, signatures and checks of chapter 8 tell the same numbers; what was there is left as it was. Numbers of 64 bits, bytes that can be read, up to 10^6 of them.
-/
import Derived.Test.YtdiacpadbndncaaSgf
namespace Go.Proofs.Ytdiacpadbndncaa
open Go.RowKit

namespace Sg
theorem times_odd (N o a k : Nat) : ((o + a) % N + (a + a) % N * k) % N = (o + a * (2 * k + 1)) % N := by
  have e : o + a * (2 * k + 1) = (o + a) + (a + a) * k := by
    rw [Nat.mul_add, Nat.mul_one, Nat.add_mul, ← Nat.mul_assoc, Nat.mul_comm a 2, Nat.two_mul, Nat.add_mul]; omega
  rw [e, Nat.add_mod, Nat.mod_mod, Nat.mul_mod, Nat.mod_mod, ← Nat.mul_mod, ← Nat.add_mod]
theorem times_even (N o a k : Nat) : (o + (a + a) % N * k) % N = (o + a * (2 * k)) % N := by
  have e : o + a * (2 * k) = o + (a + a) * k := by
    rw [← Nat.mul_assoc, Nat.mul_comm a 2, Nat.two_mul]
  rw [e, Nat.add_mod, Nat.mul_mod, Nat.mod_mod, ← Nat.mul_mod, ← Nat.add_mod]
/-- What the loop of the reference's product keeps. -/
def Tm (z o a b : Nat) : Prop := o < 2305843009213693950 ∧ a < 2305843009213693950 ∧ (o + a * b) % 2305843009213693950 = z
theorem Tm.done {z o a : Nat} (h : Tm z o a 0) : o = z := by
  have h1 := h.2.2
  rw [Nat.mul_zero, Nat.add_zero, Nat.mod_eq_of_lt h.1] at h1
  exact h1
theorem Tm.odd {z o a b k : Nat} (h : Tm z o a b) (hb : b = 2 * k + 1) : Tm z ((o + a) % 2305843009213693950) ((a + a) % 2305843009213693950) k :=
  ⟨Nat.mod_lt _ (by omega), Nat.mod_lt _ (by omega), by rw [times_odd, ← hb]; exact h.2.2⟩
theorem Tm.even {z o a b k : Nat} (h : Tm z o a b) (hb : b = 2 * k) : Tm z o ((a + a) % 2305843009213693950) k :=
  ⟨h.1, Nat.mod_lt _ (by omega), by rw [times_even, ← hb]; exact h.2.2⟩
theorem Tm.start (a b : Nat) : Tm (a * b % 2305843009213693950) 0 (a % 2305843009213693950) (b % 2305843009213693950) :=
  ⟨by omega, Nat.mod_lt _ (by omega), by rw [Nat.zero_add, ← Nat.mul_mod]⟩
end Sg

theorem order_any (w : World) : Calls Try.prog 23 #[] w fun e w' => e = .returned (.int .u64 2305843009213693950) ∧ w = w' := by
  go_enter Try.func23, Try.ntmps23
  go_wp2
  go_ret
  exact ⟨rfl, rfl⟩

set_option maxRecDepth 100000 in
set_option maxHeartbeats 1000000 in
theorem times_any (a b : Nat) (w : World) :
    Calls Try.prog 32 #[.int .u64 (a : Int), .int .u64 (b : Int)] w fun e w' => e = .returned (.int .u64 (a * b % 2305843009213693950 : Nat)) ∧ w = w' := by
  have hst := Sg.Tm.start a b
  obtain ⟨z, hz⟩ : ∃ z, z = a * b % 2305843009213693950 := ⟨_, rfl⟩
  obtain ⟨a1, ha1⟩ : ∃ x, x = a % 2305843009213693950 := ⟨_, rfl⟩
  obtain ⟨b1, hb1⟩ : ∃ x, x = b % 2305843009213693950 := ⟨_, rfl⟩
  rw [← hz, ← ha1, ← hb1] at hst
  rw [← hz]
  have g1 : (a : Int) % 2305843009213693950 = (a1 : Int) := by omega
  have g2 : (b : Int) % 2305843009213693950 = (b1 : Int) := by omega
  have hbl : b1 < 2305843009213693950 := by omega
  have HO := Lib.hid order_any
  have HST := Lib.hid hst
  clear hst hz ha1 hb1
  go_enter Try.func32, Try.ntmps32
  go_wp2_with fail
  refine (HO.out _).mono ?_
  rintro e w1 ⟨rfl, rfl⟩
  go_wp2_with fail
  refine (HO.out _).mono ?_
  rintro e w1 ⟨rfl, rfl⟩
  go_wp2
  have G1 := Lib.hid g1
  have G2 := Lib.hid g2
  clear g1 g2
  go_loop [0, 1, 5] (fun sa sb so => ∃ o' a' b' : Nat, so = .int .u64 o' ∧ sa = .int .u64 a' ∧ sb = .int .u64 b' ∧ b' < 2305843009213693950 ∧ Sg.Tm z o' a' b')
    (fun _ sb _ => (intOf sb).toNat)
  case atStart => exact ⟨0, a1, b1, rfl, by first | rfl | rw [G1.out], by first | rfl | rw [G2.out], hbl, HST.out⟩
  case round =>
    obtain ⟨o, x, y, rfl, rfl, rfl, hy, hI⟩ := hrel
    by_cases h0 : y = 0
    · subst h0
      have HI := Lib.hid hI
      clear hI
      go_wp2
      go_ret
      exact ⟨ret_u64 (by rw [HI.out.done]), rfl⟩
    · have hpos : 0 < y := by omega
      have ho := hI.1
      have hx := hI.2.1
      obtain ⟨k, hk⟩ : ∃ k, k = y / 2 := ⟨_, rfl⟩
      obtain ⟨x2, hx2⟩ : ∃ x2, x2 = (x + x) % 2305843009213693950 := ⟨_, rfl⟩
      have g3 : ((x : Int) + (x : Int)) % 2305843009213693950 = (x2 : Int) := by omega
      have g4 : (y : Int) / 2 = (k : Int) := by omega
      have hlt : k < y := by omega
      by_cases h1 : y % 2 = 1
      · have HI := Lib.hid (hI.odd (k := k) (by omega))
        rw [← hx2] at HI
        obtain ⟨o2, ho2⟩ : ∃ o2, o2 = (o + x) % 2305843009213693950 := ⟨_, rfl⟩
        rw [← ho2] at HI
        have g5 : ((o : Int) + (x : Int)) % 2305843009213693950 = (o2 : Int) := by omega
        have g6 : (((y : Int) % 2) == 1) = true := by rw [beq_iff_eq]; omega
        clear hk hx2 ho2 h1 h0 hI
        go_wp2_with (go_at_call 23; refine (HO.out _).mono ?_; rintro e w1 ⟨rfl, rfl⟩)
        go_round
        case rel => exact ⟨o2, x2, k, by first | rfl | rw [g5], by first | rfl | rw [g3], by first | rfl | rw [g4], by omega, HI.out⟩
        case measure => simp [intOf]; omega
      · have HI := Lib.hid (hI.even (k := k) (by omega))
        rw [← hx2] at HI
        have g6 : (((y : Int) % 2) == 1) = false := by rw [beq_eq_false_iff_ne]; omega
        clear hk hx2 h1 h0 hI
        go_wp2_with (go_at_call 23; refine (HO.out _).mono ?_; rintro e w1 ⟨rfl, rfl⟩)
        go_round
        case rel => exact ⟨o, x2, k, rfl, by first | rfl | rw [g3], by first | rfl | rw [g4], by omega, HI.out⟩
        case measure => simp [intOf]; omega

theorem r8secret_any (n : Nat) (w : World) :
    Calls Try.prog 11 #[.int .u64 n] w fun e w' => (∃ a : Nat, 1 ≤ a ∧ a ≤ 2305843009213693949 ∧ e = .returned (.int .u64 (a : Nat))) ∧ w = w' := by
  obtain ⟨x, hx⟩ : ∃ x : Nat, x = n % 2305843009213693949 := ⟨_, rfl⟩
  have hx1 : (n : Int) % 2305843009213693949 = (x : Int) := by omega
  have hx2 : x ≤ 2305843009213693948 := by omega
  have HO := Lib.hid order_any
  clear hx
  go_enter Try.func11, Try.ntmps11
  go_wp2_with fail
  refine (HO.out _).mono ?_
  rintro e w1 ⟨rfl, rfl⟩
  go_wp2
  go_ret
  exact ⟨⟨1 + x, by omega, by omega, by rw [Int.natCast_add]; rfl⟩, rfl⟩

theorem r8pub_any (s : Nat) (w : World) (hs : s < 18446744073709551616) :
    Calls Try.prog 13 #[.int .u64 s] w fun e w' => e = .returned (.int .u64 (Bx.pub s : Nat)) ∧ Below w.heap.size w w' := by
  have H := Lib.hid (rpow_any 37 s w hs)
  go_enter Try.func13, Try.ntmps13
  go_wp2_with fail
  refine (H.out).mono ?_
  rintro e w1 ⟨rfl, hb1⟩
  go_wp2
  go_ret
  exact ⟨rfl, hb1⟩

theorem r8m_any {w : World} {A : Option Addr} {n c : Nat} {l : List UInt8} (h : Bt w A n c l) (hn : n ≤ 1000000) :
    Calls Try.prog 31 #[.slice A n c] w fun e w' => e = .returned (.int .u64 (Sg.msg l : Nat)) ∧ Below w.heap.size w w' := by
  have H := Lib.hid (rbytes_any ⟨#[115, 105, 103, 110, 101, 100]⟩ l A n c w (by decide) h.len hn h.rd)
  clear h hn
  go_enter Try.func31, Try.ntmps31
  go_wp2_with fail
  refine (H.out).mono ?_
  rintro e w1 ⟨rfl, hb1⟩
  go_wp2
  go_ret
  exact ⟨rfl, hb1⟩

theorem r8e_any {w : World} {A : Option Addr} {n c : Nat} {l : List UInt8} (h : Bt w A n c l) (hn : n ≤ 1000000) (r t : Nat) :
    Calls Try.prog 33 #[.int .u64 (r : Int), .int .u64 (t : Int), .slice A n c] w fun e w' => e = .returned (.int .u64 (Sg.ask r t (Sg.msg l) : Nat)) ∧ Below w.heap.size w w' := by
  have HM := Lib.hid (r8m_any h hn)
  obtain ⟨m, hm⟩ : ∃ m, m = Sg.msg l := ⟨_, rfl⟩
  rw [← hm] at HM ⊢
  have HA : Hid (∀ W : World, Calls Try.prog 44 #[.string ⟨#[115, 105, 103]⟩, .slice (some ⟨W.heap.size, 0, none⟩) 3 3] (W.alloc (.cells #[.int .u64 (r : Int), .int .u64 (t : Int), .int .u64 (m : Int)] 22)) fun e w' => e = .returned (.int .u64 (Sg.ask r t m : Nat)) ∧ Below W.heap.size W w') :=
    Lib.hid (fun W => rof_new ⟨#[115, 105, 103]⟩ [r, t, m] 3 W (by decide) rfl (by simp))
  clear h hn hm
  go_enter Try.func33, Try.ntmps33
  go_wp2_with fail
  refine (HM.out).mono ?_
  rintro e w1 ⟨rfl, hb1⟩
  go_wp2_with fail
  refine (HA.out _).mono ?_
  rintro e w2 ⟨rfl, hb2⟩
  go_wp2
  go_ret
  exact ⟨rfl, kept_trans hb1 hb2⟩

end Go.Proofs.Ytdiacpadbndncaa
