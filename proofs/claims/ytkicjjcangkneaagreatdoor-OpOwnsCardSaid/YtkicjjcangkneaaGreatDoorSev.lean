/-
  Package pack's numbers: the sign in the lowest bit, and the sevens of bits that a cursor goes along. No condition but what fits memory.
-/
import Derived.Test.YtkicjjcangkneaaGreatDoorCur
import Derived.Laws.DeepNot64
namespace Go.Proofs.YtkicjjcangkneaaGreatDoor
open Go.RowKit
attribute [local go_sem ↓] Go.wp_at_zero Go.wp_at_succ

/-! ### a seven more -/
theorem or_seven_at (a b i p : Nat) (hp : p = 2 ^ i) (ha : a < p) (hs : p * b < 18446744073709551616) (hp64 : p ≤ 9223372036854775808) (hb : b < 128) :
    bits .or .u64 (a : Int) (IntKind.u64.wrap (IntKind.u64.wrap (b : Int) * ((p : Nat) : Int))) = ((a + p * b : Nat) : Int) := by
  have h1 : b * p < 18446744073709551616 := by rw [Nat.mul_comm]; exact hs
  have e0 : IntKind.u64.wrap (b : Int) = (b : Int) := by rw [IntKind.wrap_u64]; omega
  have e1 : IntKind.u64.wrap ((b : Int) * ((p : Nat) : Int)) = ((b * p : Nat) : Int) := by
    rw [← Int.natCast_mul, IntKind.wrap_u64]; omega
  rw [e0, e1, bits_or_u64_nat _ _ (by omega) h1, hp, or_high a b i (hp ▸ ha)]
theorem or_seven (a b j : Nat) (hj : j ≤ 9) (ha : a < 128 ^ j) (hb : b < 128) (h9 : j = 9 → b ≤ 1) :
    bits .or .u64 (a : Int) (IntKind.u64.wrap (IntKind.u64.wrap (b : Int) * 2 ^ (7 * j))) = ((a + 128 ^ j * b : Nat) : Int) := by
  have h : j = 0 ∨ j = 1 ∨ j = 2 ∨ j = 3 ∨ j = 4 ∨ j = 5 ∨ j = 6 ∨ j = 7 ∨ j = 8 ∨ j = 9 := by omega
  rcases h with rfl | rfl | rfl | rfl | rfl | rfl | rfl | rfl | rfl | rfl
  · exact or_seven_at a b 0 1 rfl ha (by omega) (by omega) hb
  · exact or_seven_at a b 7 128 rfl ha (by omega) (by omega) hb
  · exact or_seven_at a b 14 16384 rfl ha (by omega) (by omega) hb
  · exact or_seven_at a b 21 2097152 rfl ha (by omega) (by omega) hb
  · exact or_seven_at a b 28 268435456 rfl ha (by omega) (by omega) hb
  · exact or_seven_at a b 35 34359738368 rfl ha (by omega) (by omega) hb
  · exact or_seven_at a b 42 4398046511104 rfl ha (by omega) (by omega) hb
  · exact or_seven_at a b 49 562949953421312 rfl ha (by omega) (by omega) hb
  · exact or_seven_at a b 56 72057594037927936 rfl ha (by omega) (by omega) hb
  · have := h9 rfl
    exact or_seven_at a b 63 9223372036854775808 rfl ha (by omega) (by omega) hb
theorem pow_seven {a b j : Nat} (ha : a < 128 ^ j) (hb : b < 128) : a + 128 ^ j * b < 128 ^ (j + 1) := by
  have h1 : 128 ^ j * b ≤ 128 ^ j * 127 := Nat.mul_le_mul_left _ (by omega)
  have h2 : 128 ^ (j + 1) = 128 ^ j * 128 := Nat.pow_succ _ _
  omega
theorem pow_nine {a j : Nat} (ha : a < 128 ^ j) (hj : j ≤ 9) : a < 18446744073709551616 := by
  have : 128 ^ j ≤ 128 ^ 9 := Nat.pow_le_pow_right (by omega) hj
  omega

/-! ### the sign -/
theorem i64_not_neg (m : Nat) (n : Int) (hn : n = -(m : Int) - 1) (hm : m < 9223372036854775808) : bits .xor .i64 (-1) n = (m : Int) := by
  show IntKind.i64.wrap ((BitVec.ofInt 64 (-1) ^^^ BitVec.ofInt 64 n).toNat : Int) = _
  have h1 : BitVec.ofInt 64 (-1) = BitVec.allOnes 64 := by decide
  have h2 : (BitVec.ofInt 64 n).toNat = 18446744073709551615 - m := by
    rw [BitVec.toNat_ofInt, hn]
    show ((-(m : Int) - 1) % 18446744073709551616).toNat = _
    omega
  rw [h1, BitVec.allOnes_xor, BitVec.toNat_not, h2]
  simp [IntKind.wrap, IntKind.bits, IntKind.signed]
  omega

theorem ret_i64' {a b : Int} (h : a = b) : Ending.returned (.int .i64 a) = .returned (.int .i64 b) := by rw [h]
theorem signed_any (u : Nat) (w : World) (hu : u < 18446744073709551616) : Calls Tryz.prog 215 #[.int .u64 (u : Int)] w fun e w' => e = .returned (.int .i64 (Pk.zag u)) ∧ w = w' := by
  obtain ⟨z, hz⟩ : ∃ z : Int, z = Pk.zag u := ⟨_, rfl⟩
  rw [← hz]
  unfold Pk.zag at hz
  obtain ⟨q, hh⟩ : ∃ q : Nat, q = u / 2 := ⟨_, rfl⟩
  have hb : q < 9223372036854775808 := by omega
  have hd : (u : Int) / 2 = (q : Int) := by omega
  have hw : IntKind.i64.wrap (q : Int) = (q : Int) := by rw [IntKind.wrap_i64]; omega
  by_cases ho : u % 2 = 1
  · have h1 : (((u : Int) % 2) == 1) = true := by rw [beq_iff_eq]; omega
    have hzz : z = -(q : Int) - 1 := by rw [hz, if_pos ho, hh]
    have HZ := Lib.hid hzz
    clear hz hzz ho hh
    go_enter Tryz.func215, Tryz.ntmps215
    go_wp2
    go_ret
    exact ⟨ret_i64' (by rw [HZ.out]; exact (i64_not q hb).trans (by omega)), rfl⟩
  · have h1 : (((u : Int) % 2) == 1) = false := by rw [beq_eq_false_iff_ne]; omega
    have hzz : z = (q : Int) := by rw [hz, if_neg ho, hh]
    have HZ := Lib.hid hzz
    clear hz hzz ho hh
    go_enter Tryz.func215, Tryz.ntmps215
    go_wp2
    go_ret
    exact ⟨ret_i64' HZ.out.symm, rfl⟩

theorem unsigned_any (n : Int) (w : World) (h1 : -9223372036854775808 ≤ n) (h2 : n ≤ 9223372036854775807) : Calls Tryz.prog 181 #[.int .i64 n] w fun e w' => e = .returned (.int .u64 (Pk.zig n : Nat)) ∧ w = w' := by
  obtain ⟨z, hz⟩ : ∃ z : Nat, z = Pk.zig n := ⟨_, rfl⟩
  rw [← hz]
  unfold Pk.zig at hz
  by_cases h0 : n < 0
  · obtain ⟨m, hm⟩ : ∃ m : Nat, n = -(m : Int) - 1 := ⟨(-(n + 1)).toNat, by omega⟩
    have hmb : m < 9223372036854775808 := by omega
    have hx := i64_not_neg m n hm hmb
    have hzz : z = 2 * m + 1 := by rw [hz, if_pos h0]; omega
    have hw : IntKind.u64.wrap (m : Int) = (m : Int) := by rw [IntKind.wrap_u64]; omega
    have hw2 : IntKind.u64.wrap ((m : Int) * 2) = ((2 * m : Nat) : Int) := by rw [IntKind.wrap_u64]; omega
    have hor : bits .or .u64 ((2 * m : Nat) : Int) 1 = ((2 * m + 1 : Nat) : Int) := by
      have := bits_or_u64_nat (2 * m) 1 (by omega) (by omega)
      rw [show ((1 : Nat) : Int) = 1 from rfl] at this
      rw [this, Nat.or_comm]
      have h := Nat.two_pow_add_eq_or_of_lt (i := 1) (b := 1) (by omega) m
      rw [Nat.or_comm, show 2 * m = 2 ^ 1 * m from rfl, ← h]
    have HZ := Lib.hid hzz
    have HO := Lib.hid hor
    have HW2 := Lib.hid hw2
    have HM := Lib.hid hm
    clear hz hzz hor hw2 hm
    go_enter Tryz.func181, Tryz.ntmps181
    go_wp2
    go_ret
    exact ⟨ret_u64 (by rw [HZ.out]; show bits .or .u64 (IntKind.u64.wrap ((m : Int) * 2)) 1 = _; rw [HW2.out]; exact HO.out), rfl⟩
  · obtain ⟨m, rfl⟩ := Int.eq_ofNat_of_zero_le (by omega : 0 ≤ n)
    have hmb : m < 9223372036854775808 := by omega
    have hw : IntKind.u64.wrap (m : Int) = (m : Int) := by rw [IntKind.wrap_u64]; omega
    have hzz : z = 2 * m := by rw [hz, if_neg h0]; omega
    have HZ := Lib.hid hzz
    clear hz hzz
    go_enter Tryz.func181, Tryz.ntmps181
    go_wp2
    go_ret
    exact ⟨ret_u64 (by rw [HZ.out]; show (m : Int) * 2 = _; omega), rfl⟩

/-! ### the sevens -/
/-- What a read of a cursor at place k makes of it: q of the bytes from k on. -/
def Did (lo : Nat) (w w' : World) (C : Nat) (l : List UInt8) (k n : Nat) (e : Int) : Prop := ∃ k', Cu lo 165 w' C l k' e ∧ (e = 0 → k' = k + n) ∧ w.grownBy w' (some C)
theorem drop_one (l : List UInt8) (i : Nat) (h : i < l.length) : l.drop i = l[i] :: l.drop (i + 1) := List.drop_eq_getElem_cons h
theorem rd_head {lo : Nat} {w : World} {A : Option Addr} {l : List UInt8} {i : Nat} (hi : i < l.length) (h : Rd lo w A (u8s ((l.drop i).take 1))) : ∃ b off, A = some ⟨b, off, none⟩ ∧ w.cell? ⟨b, off, none⟩ = some (.int .u8 ((l[i]).toNat : Int)) := by
  rw [drop_one l i hi] at h
  have h' : Rd lo w A [.int .u8 ((l[i]).toNat : Int)] := h
  obtain ⟨b, off, e, _, hc⟩ := h' Nat.zero_lt_one
  exact ⟨b, off, e, hc 0 _ rfl⟩

set_option maxRecDepth 100000 in
set_option maxHeartbeats 1000000 in
theorem sevens_ok {lo C : Nat} {l : List UInt8} {k : Nat} {w : World} (h : Cu lo 165 w C l k 0) :
    Calls Tryz.prog 147 #[.pointer (some ⟨C, 0, none⟩)] w fun e w' => e = .returned (.int .u64 ((Pk.pNum (l.drop k)).v : Nat)) ∧ Did lo w w' C l k (Pk.pNum (l.drop k)).n (Pk.pNum (l.drop k)).e := by
  obtain ⟨r, hr⟩ : ∃ r, r = Pk.pNum (l.drop k) := ⟨_, rfl⟩
  rw [← hr]
  have hat : r = Pk.lift 0 0 (Pk.sev 0 (l.drop k)) := hr.trans (Pk.sev_at _)
  have HAT := Lib.hid hat
  have HCU := Lib.hid h
  clear hr hat h
  go_enter Tryz.func147, Tryz.ntmps147
  go_wp2
  go_loopw [3, 4, 5, 6, 7] (fun n s _ _ _ wr => ∃ j N S : Nat, n = .int .u64 N ∧ s = .int .i64 S ∧ S = 7 * j ∧ j ≤ 9 ∧ N < 128 ^ j ∧ r = Pk.lift N j (Pk.sev j (l.drop (k + j))) ∧ Cu lo 165 wr C l (k + j) 0 ∧ w.grownBy wr (some C)) (fun _ s _ _ _ _ => 70 - (intOf s).toNat)
  case atStart => exact ⟨0, 0, 0, rfl, rfl, rfl, by omega, by decide, HAT.out, HCU.out, only_refl _ _⟩
  case round =>
    obtain ⟨j, N, S, rfl, rfl, hS, hj, hN, hq, hcu, hg⟩ := hrel
    clear HAT HCU
    have hpl := hcu.place
    by_cases hend : k + j = l.length
    · have ht := take_short 1 (by rw [hend]; omega) hcu
      have hd : l.drop (k + j) = [] := List.drop_eq_nil_of_le (by omega)
      rw [hd, Pk.sev_nil, Pk.lift_bad _ _ (by decide)] at hq
      have HT := Lib.hid ht
      have HQ := Lib.hid hq
      have HG := Lib.hid hg
      have HS := Lib.hid hS
      have HN := Lib.hid hN
      clear ht hd hq hg hS hN hcu hend hpl
      go_wp2_with fail
      refine (HT.out).mono ?_
      rintro e w1 ⟨rfl, hcu, hg1⟩
      have HCU := Lib.hid hcu
      have HG1 := Lib.hid hg1
      obtain ⟨A, c, hC, _⟩ := hcu
      have c2 : w1.cell? ⟨C, 2, none⟩ = some (.int .i64 9) := hC.cell 2
      clear hC HT hg1
      go_wp2
      go_ret
      exact ⟨by rw [HQ.out]; rfl, k + j, by rw [HQ.out]; exact HCU.out, fun h => by rw [HQ.out] at h; exact absurd h (by decide), HG.out.trans HG1.out⟩
    · have hjl : k + j < l.length := by omega
      have ht := cu_take_any 1 (by omega) hcu
      have hcb := (l[k + j]).toNat_lt
      have hdr := drop_one l (k + j) hjl
      rw [hdr] at hq
      obtain ⟨c, hc⟩ : ∃ c : Nat, c = (l[k + j]).toNat := ⟨_, rfl⟩
      have HT := Lib.hid ht
      have HQ := Lib.hid hq
      have HG := Lib.hid hg
      have HS := Lib.hid hS
      have HN := Lib.hid hN
      have HC := Lib.hid hc
      have HP := Lib.hid hpl
      have HJ := Lib.hid hjl
      clear ht hq hg hS hN hcu hend hpl hc hdr
      go_wp2_with fail
      refine (HT.out).mono ?_
      rintro e w1 ⟨⟨A', c', rfl, hA'⟩, hcu, hg1⟩
      obtain ⟨b, off, rfl, hcell⟩ := rd_head HJ.out hA'
      rw [← HC.out] at hcell hcb
      have HCU := Lib.hid hcu
      have HG1 := Lib.hid hg1
      have HF := Lib.hid (fun m : Nat => fail_none 7 (hcu.drew m))
      obtain ⟨A, cc, hC, _⟩ := hcu
      have c2 : w1.cell? ⟨C, 2, none⟩ = some (.int .i64 0) := hC.cell 2
      clear hC HT hg1 hA'
      have hbadq : (0 < j ∧ c = 0) ∨ (j = 9 ∧ 1 < c) → r = ⟨0, 0, 7⟩ := fun hb => by rw [HQ.out, Pk.sev_bad (by rw [← HC.out]; exact hb), Pk.lift_bad _ _ (by show (7 : Int) ≠ 0; decide)]
      have HBQ := Lib.hid hbadq
      clear hbadq
      by_cases hbad : (0 < j ∧ c = 0) ∨ (j = 9 ∧ 1 < c)
      · have B1 : decide (0 < S) = true := decide_eq_true (by have := HS.out; omega)
        have HR := Lib.hid (HBQ.out hbad)
        clear HBQ HQ
        by_cases h9 : j = 9
        · have B2 : ((S : Int) == 63) = true := by rw [beq_iff_eq]; have := HS.out; omega
          by_cases h0 : c = 0
          · have B3 : ((c : Int) == 0) = true := by rw [beq_iff_eq]; omega
            have B4 : decide ((1 : Int) < (c : Int)) = false := decide_eq_false (by omega)
            clear hbad h9 h0
            go_wp2_with fail
            go_quiet (fail)
            go_wp2_with fail
            refine (HF.out _).mono ?_
            rintro e w2 ⟨⟨_, rfl⟩, hcu2, hg2⟩
            go_wp2
            go_ret
            exact ⟨by rw [HR.out]; rfl, _, by rw [HR.out]; exact hcu2, fun h => by rw [HR.out] at h; exact absurd h (by decide), (HG.out.trans HG1.out).trans (grown_drewN hg2)⟩
          · have B3 : ((c : Int) == 0) = false := by rw [beq_eq_false_iff_ne]; omega
            have B4 : decide ((1 : Int) < (c : Int)) = true := decide_eq_true (by omega)
            clear hbad h9 h0
            go_wp2_with fail
            go_quiet (fail)
            go_wp2_with fail
            refine (HF.out _).mono ?_
            rintro e w2 ⟨⟨_, rfl⟩, hcu2, hg2⟩
            go_wp2
            go_ret
            exact ⟨by rw [HR.out]; rfl, _, by rw [HR.out]; exact hcu2, fun h => by rw [HR.out] at h; exact absurd h (by decide), (HG.out.trans HG1.out).trans (grown_drewN hg2)⟩
        · have B2 : ((S : Int) == 63) = false := by rw [beq_eq_false_iff_ne]; have := HS.out; omega
          have B3 : ((c : Int) == 0) = true := by rw [beq_iff_eq]; omega
          clear hbad h9
          go_wp2_with fail
          go_quiet (fail)
          go_wp2_with fail
          refine (HF.out _).mono ?_
          rintro e w2 ⟨⟨_, rfl⟩, hcu2, hg2⟩
          go_wp2
          go_ret
          exact ⟨by rw [HR.out]; rfl, _, by rw [HR.out]; exact hcu2, fun h => by rw [HR.out] at h; exact absurd h (by decide), (HG.out.trans HG1.out).trans (grown_drewN hg2)⟩
      · clear HF
        have hbc : c < 128 → r = ⟨N + 128 ^ j * c, j + 1, 0⟩ := fun hb => by
          rw [HQ.out, Pk.sev_last (by rw [← HC.out]; exact hbad) (by rw [← HC.out]; exact hb), Pk.lift_zero _ _ rfl, ← HC.out]
          congr 1
          show 1 + j = _
          omega
        have hmo : ¬ c < 128 → r = Pk.lift (N + 128 ^ j * (c - 128)) (j + 1) (Pk.sev (j + 1) (l.drop (k + (j + 1)))) := fun hb => by
          rw [HQ.out, Pk.sev_more (by rw [← HC.out]; exact hbad) (by rw [← HC.out]; exact hb), Pk.lift_lift, ← HC.out]
          rfl
        obtain ⟨d, hd⟩ : ∃ d, d = c % 128 := ⟨_, rfl⟩
        have hdi : (c : Int) % 128 = (d : Int) := by omega
        have hor := or_seven N d j hj HN.out (by omega) (fun h => by omega)
        have hpw := pow_seven (b := d) HN.out (by omega)
        rw [← HS.out, show IntKind.u64.wrap (d : Int) = (d : Int) by rw [IntKind.wrap_u64]; omega] at hor
        obtain ⟨M, hM⟩ : ∃ M, M = N + 128 ^ j * d := ⟨_, rfl⟩
        rw [← hM] at hor hpw
        have hlt : c < 128 → r = ⟨M, j + 1, 0⟩ := fun hb => by rw [hbc hb, hM, hd, Nat.mod_eq_of_lt hb]
        have hge : ¬ c < 128 → r = Pk.lift M (j + 1) (Pk.sev (j + 1) (l.drop (k + (j + 1)))) := fun hb => by rw [hmo hb, hM, hd, show c % 128 = c - 128 by omega]
        have HLT := Lib.hid hlt
        have HGE := Lib.hid hge
        have hSb : S ≤ 63 := by have := HS.out; omega
        have hor2 : bits .or .u64 (N : Int) (IntKind.u64.wrap ((d : Int) * 2 ^ min S 64)) = ((M : Nat) : Int) := by rw [Nat.min_eq_left (by omega)]; exact hor
        have HPW := Lib.hid hpw
        clear hbc hmo hpw hlt hge HQ HBQ hM hd
        have hj3 : j = 0 ∨ j = 9 ∨ (0 < j ∧ j < 9) := by omega
        have hb5 : ∃ b1 b2 b3 b4 : Bool, decide (0 < S) = b1 ∧ ((S : Int) == 63) = b2 ∧ ((c : Int) == 0) = b3 ∧ decide ((1 : Int) < (c : Int)) = b4 ∧ ((b1 = false ∧ b2 = false) ∨ (b1 = true ∧ b2 = false ∧ b3 = false) ∨ (b1 = true ∧ b2 = true ∧ b3 = false ∧ b4 = false)) := by
          refine ⟨_, _, _, _, rfl, rfl, rfl, rfl, ?_⟩
          have hs := HS.out
          simp only [decide_eq_false_iff_not, decide_eq_true_eq, beq_eq_false_iff_ne, beq_iff_eq, ne_eq]
          omega
        obtain ⟨b1, b2, b3, b4, B1, B2, B3, B4, hb⟩ := hb5
        have HJ9 := Lib.hid (show ¬ c < 128 → j + 1 ≤ 9 from fun h => by omega)
        clear hbad hj3
        rcases hb with ⟨rfl, rfl⟩ | ⟨rfl, rfl, rfl⟩ | ⟨rfl, rfl, rfl, rfl⟩
        all_goals
          by_cases hc8 : c < 128
          · have B5 : (c : Int) < 128 := by omega
            have HR := Lib.hid (HLT.out hc8)
            clear HLT HGE hc8
            go_wp2_with fail
            go_quiet (fail)
            go_wp2
            go_ret
            exact ⟨by rw [HR.out]; rfl, k + j + 1, by rw [HR.out]; exact HCU.out.drew _, fun _ => by rw [HR.out]; rfl, only_drewN (HG.out.trans HG1.out) _⟩
          · have B5 : ¬ (c : Int) < 128 := by omega
            have HR := Lib.hid (HGE.out hc8)
            have HJ9' := Lib.hid (HJ9.out hc8)
            clear HLT HGE hc8
            go_wp2_with fail
            go_quiet (fail)
            go_wp2
            go_roundw
            case rel => exact ⟨j + 1, M, S + 7, rfl, by go_num, by have := HS.out; omega, HJ9'.out, HPW.out, HR.out, HCU.out.drew _, only_drewN (HG.out.trans HG1.out) _⟩
            case measure => simp [intOf]; omega

end Go.Proofs.YtkicjjcangkneaaGreatDoor
