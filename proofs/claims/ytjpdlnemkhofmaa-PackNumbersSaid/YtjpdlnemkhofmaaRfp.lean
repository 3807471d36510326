/-
  What a number, or a record of what is to be written, stands for: helpers of the statements on pack, each told exactly.
-/
import Derived.Test.YtjpdlnemkhofmaaRfi
namespace Go.Proofs.Ytjpdlnemkhofmaa
open Go.RowKit
attribute [local go_sem ↓] Go.wp_at_zero Go.wp_at_succ

namespace Pk
/-- A number made one from 0 to below k. -/
def aro (n : Int) (k : Nat) : Nat := if n < 0 then (-(n + 1)).toNat % k else n.toNat % k
theorem aro_lt (n : Int) {k : Nat} (h : 0 < k) : aro n k < k := by unfold aro; split <;> exact Nat.mod_lt _ h
/-- A number as one without a sign. -/
def u64 (n : Int) : Nat := (n % 18446744073709551616).toNat
theorem u64_lt (n : Int) : u64 n < 18446744073709551616 := by unfold u64; omega
/-- The name that is made of a number. -/
def nm (n : Int) : Nm := ⟨n.tmod 13, n, u64 n * 977 % 18446744073709551616⟩
structure Od where
  d : Int
  n : Int
  s : ByteArray
def odv (o : Od) : Value := .agg #[.int .i64 o.d, .int .i64 o.n, .string o.s]
def Od.ok (o : Od) : Prop := -9223372036854775808 ≤ o.d ∧ o.d ≤ 9223372036854775807 ∧ -9223372036854775808 ≤ o.n ∧ o.n ≤ 9223372036854775807
/-- What a record writes. -/
def put (o : Od) : List UInt8 :=
  if aro o.d 7 = 4 then num (u64 o.n)
  else if aro o.d 7 = 5 then nName (nm o.n)
  else if aro o.d 7 = 6 then nInt (aro o.n 21 : Nat)
  else if aro o.d 7 = 2 then nText (o.s.data.toList.take 40)
  else if aro o.d 7 = 3 then nBool (decide (o.n.tmod 2 = 0))
  else nInt o.n
end Pk

theorem aro_is (z : Int) (k : Nat) (w : World) (h1 : -9223372036854775808 ≤ z) (h2 : z ≤ 9223372036854775807) (hk : 0 < k) (hk2 : k ≤ 1000000) :
    Calls Try.prog 16 #[.int .i64 z, .int .i64 (k : Int)] w fun e w' => e = .returned (.int .i64 (Pk.aro z k : Nat)) ∧ w = w' := by
  unfold Pk.aro
  rcases Int.lt_or_le z 0 with h | h
  · rw [if_pos h]
    exact around_neg (-(z + 1)).toNat k z w (by omega) (by omega) hk hk2
  · rw [if_neg (by omega)]
    obtain ⟨m, rfl⟩ := Int.eq_ofNat_of_zero_le h
    exact around_pos m k w (by omega) hk hk2
theorem short_is (s : ByteArray) (m : Nat) (w : World) (hm : m ≤ 1000000) :
    Calls Try.prog 25 #[.string s, .int .i64 (m : Int)] w fun e w' => (∃ t : ByteArray, e = .returned (.string t) ∧ t.data.toList = s.data.toList.take m) ∧ w = w' := by
  rcases Nat.lt_or_ge m s.size with h | h
  · have hd : decide ((m : Int) < (s.size : Int)) = true := decide_eq_true (by omega)
    have q1 : (m : Int) ≤ (s.size : Int) := by omega
    have q0 : (0 : Int) ≤ (m : Int) := by omega
    have hsz : (s.extract 0 m).data.toList = s.data.toList.take m := by
      rw [ByteArray.data_extract]
      simp
    have HS := Lib.hid hsz
    clear hsz
    go_enter Try.func25, Try.ntmps25
    go_wp2
    go_ret
    exact ⟨⟨_, rfl, HS.out⟩, rfl⟩
  · have hd : decide ((m : Int) < (s.size : Int)) = false := decide_eq_false (by omega)
    go_enter Try.func25, Try.ntmps25
    go_wp2
    go_ret
    have hlen : s.data.toList.length = s.size := rfl
    exact ⟨⟨s, rfl, by rw [List.take_of_length_le (by omega)]⟩, rfl⟩

set_option maxHeartbeats 400000 in
theorem nm_is (n : Int) (w : World) (h1 : -9223372036854775808 ≤ n) (h2 : n ≤ 9223372036854775807) : Calls Try.prog 22 #[.int .i64 n] w fun e w' => e = .returned (nmv (Pk.nm n)) ∧ Below w.heap.size w w' := by
  obtain ⟨u, hu⟩ : ∃ u, u = Pk.u64 n := ⟨_, rfl⟩
  obtain ⟨v, hv⟩ : ∃ v, v = u * 977 % 18446744073709551616 := ⟨_, rfl⟩
  have hnm : Pk.nm n = ⟨n.tmod 13, n, v⟩ := by rw [hv, hu]; rfl
  rw [hnm]
  have hw1 : IntKind.u64.wrap n = (u : Int) := by rw [hu, IntKind.wrap_u64]; unfold Pk.u64; omega
  have hw2 : IntKind.u64.wrap ((u : Int) * 977) = (v : Int) := by rw [hv, IntKind.wrap_u64]; omega
  obtain ⟨t, ht⟩ : ∃ t, t = n.tmod 13 := ⟨_, rfl⟩
  have htb : -13 < t ∧ t < 13 := by
    rw [ht]
    rcases Int.lt_or_le n 0 with h | h
    · obtain ⟨m, hm⟩ : ∃ m : Nat, n = -(m : Int) := ⟨(-n).toNat, by omega⟩
      rw [hm, Int.neg_tmod, Int.tmod_eq_emod_of_nonneg (by omega)]
      omega
    · rw [Int.tmod_eq_emod_of_nonneg h]
      omega
  have hwt : IntKind.i64.wrap t = t := by rw [IntKind.wrap_i64]; omega
  have htt : n.tmod 13 = t := ht.symm
  rw [htt]
  have HU := Lib.hid hu
  have HV := Lib.hid hv
  clear hu hv hnm ht
  go_enter Try.func22, Try.ntmps22
  go_wp2
  exact bodyPost_ret (v := .agg #[.int .i64 t, .int .i64 n, .int .u64 (v : Nat)]) (by simp [results, Try.results22, go_sem]) rfl ⟨rfl, (Below.refl _ _).alloc (Nat.le_refl _) _⟩
theorem nm_bounds (n : Int) (h1 : -9223372036854775808 ≤ n) (h2 : n ≤ 9223372036854775807) : -9223372036854775808 ≤ (Pk.nm n).a ∧ (Pk.nm n).a ≤ 9223372036854775807 ∧ (Pk.nm n).c < 18446744073709551616 := by
  refine ⟨?_, ?_, Nat.mod_lt _ (by omega)⟩
  · show _ ≤ n.tmod 13
    rcases Int.lt_or_le n 0 with h | h
    · obtain ⟨m, hm⟩ : ∃ m : Nat, n = -(m : Int) := ⟨(-n).toNat, by omega⟩
      rw [hm, Int.neg_tmod, Int.tmod_eq_emod_of_nonneg (by omega)]
      omega
    · rw [Int.tmod_eq_emod_of_nonneg h]
      omega
  · show n.tmod 13 ≤ _
    rcases Int.lt_or_le n 0 with h | h
    · obtain ⟨m, hm⟩ : ∃ m : Nat, n = -(m : Int) := ⟨(-n).toNat, by omega⟩
      rw [hm, Int.neg_tmod, Int.tmod_eq_emod_of_nonneg (by omega)]
      omega
    · rw [Int.tmod_eq_emod_of_nonneg h]
      omega
theorem tmod2_bounds (n : Int) : -2 < n.tmod 2 ∧ n.tmod 2 < 2 := by
  rcases Int.lt_or_le n 0 with h | h
  · obtain ⟨m, hm⟩ : ∃ m : Nat, n = -(m : Int) := ⟨(-n).toNat, by omega⟩
    rw [hm, Int.neg_tmod, Int.tmod_eq_emod_of_nonneg (by omega)]
    omega
  · rw [Int.tmod_eq_emod_of_nonneg h]
    omega
theorem Bys.of_below {w w0 w' : World} {e : Ending} {l : List UInt8} (h : Bys w0 w' e l) (hb : Below w.heap.size w w0) : Bys w w' e l := by
  obtain ⟨A, c, rfl, ho, hb'⟩ := h
  exact ⟨A, c, rfl, own_more ho hb.size, kept_trans hb hb'⟩

/-! ### what a record writes -/
set_option maxRecDepth 100000 in
set_option maxHeartbeats 2000000 in
theorem rput_any (o : Pk.Od) (ho : o.ok) (w : World) : Calls Try.prog 36 #[Pk.odv o] w fun e w' => Bys w w' e (Pk.put o) := by
  obtain ⟨d, n, s⟩ := o
  obtain ⟨hd1, hd2, hn1, hn2⟩ := ho
  have har := aro_is d 7 (w.alloc (.cells #[.int .i64 d, .int .i64 n, .string s] 29)) hd1 hd2 (by omega) (by omega)
  have hlt := Pk.aro_lt d (k := 7) (by omega)
  have hb0 : Below w.heap.size w (w.alloc (.cells #[.int .i64 d, .int .i64 n, .string s] 29)) := (Below.refl _ w).alloc (Nat.le_refl _) _
  obtain ⟨F, hF⟩ : ∃ F, F = Pk.put ⟨d, n, s⟩ := ⟨_, rfl⟩
  rw [← hF]
  unfold Pk.put at hF
  replace hF : F = if Pk.aro d 7 = 4 then Pk.num (Pk.u64 n) else if Pk.aro d 7 = 5 then Pk.nName (Pk.nm n) else if Pk.aro d 7 = 6 then Pk.nInt (Pk.aro n 21 : Nat) else if Pk.aro d 7 = 2 then Pk.nText (s.data.toList.take 40) else if Pk.aro d 7 = 3 then Pk.nBool (decide (n.tmod 2 = 0)) else Pk.nInt n := hF
  obtain ⟨r, hr⟩ : ∃ r, r = Pk.aro d 7 := ⟨_, rfl⟩
  rw [← hr] at har hlt hF
  rw [show ((7 : Nat) : Int) = 7 from rfl] at har
  have HB0 := Lib.hid hb0
  clear hr hb0 hd1 hd2
  obtain ⟨B, hBe⟩ : ∃ B, B = w.heap.size := ⟨_, rfl⟩
  have HBE := Lib.hid hBe
  have h7 : r = 4 ∨ r = 5 ∨ r = 6 ∨ r = 2 ∨ r = 3 ∨ r = 0 ∨ r = 1 := by omega
  clear hlt hBe
  have HAR := Lib.hid har
  clear har
  unfold Pk.odv
  rcases h7 with rfl | rfl | rfl | rfl | rfl | h01
  · rw [if_pos rfl] at hF
    subst hF
    have hw : IntKind.u64.wrap n = (Pk.u64 n : Int) := by rw [IntKind.wrap_u64]; unfold Pk.u64; omega
    have HC := Lib.hid (fun W : World => rwnum_any (Pk.u64 n) W (Pk.u64_lt n))
    obtain ⟨u, hu⟩ : ∃ u, u = Pk.u64 n := ⟨_, rfl⟩
    rw [← hu] at hw HC ⊢
    clear hu hn1 hn2
    go_enter Try.func36, Try.ntmps36
    go_wp2_with fail
    refine (HAR.out).mono ?_
    rintro e w1 ⟨rfl, rfl⟩
    go_wp2_with fail
    refine (HC.out _).mono ?_
    intro e w2 hby
    obtain ⟨A, c, rfl, ho⟩ := hby.of_below HB0.out
    clear hby
    go_wp2
    go_ret
    exact ⟨A, c, rfl, ho⟩
  · rw [if_neg (by omega), if_pos rfl] at hF
    subst hF
    have HN := Lib.hid (fun W : World => nm_is n W hn1 hn2)
    have hbn := nm_bounds n hn1 hn2
    have HC := Lib.hid (fun W : World => rwname_any (Pk.nm n) W hbn.1 hbn.2.1 hn1 hn2 hbn.2.2)
    obtain ⟨x, hx⟩ : ∃ x, x = Pk.nm n := ⟨_, rfl⟩
    rw [← hx] at HN HC ⊢
    clear hx hn1 hn2 hbn
    go_enter Try.func36, Try.ntmps36
    go_wp2_with fail
    refine (HAR.out).mono ?_
    rintro e w1 ⟨rfl, rfl⟩
    go_wp2_with fail
    refine (HN.out _).mono ?_
    rintro e w2 ⟨rfl, hb2⟩
    have HB2 := Lib.hid (kept_trans HB0.out hb2)
    clear hb2 HB0
    go_wp2_with fail
    refine (HC.out _).mono ?_
    intro e w3 hby
    obtain ⟨A, c, rfl, ho⟩ := hby.of_below HB2.out
    clear hby
    go_wp2
    go_ret
    exact ⟨A, c, rfl, ho⟩
  · rw [if_neg (by omega), if_neg (by omega), if_pos rfl] at hF
    subst hF
    have hlt := Pk.aro_lt n (k := 21) (by omega)
    have HR := Lib.hid (fun W : World => aro_is n 21 W hn1 hn2 (by omega) (by omega))
    have HC := Lib.hid (fun W : World => rwint_any (Pk.aro n 21 : Nat) W (by omega) (by omega))
    obtain ⟨x, hx⟩ : ∃ x, x = Pk.aro n 21 := ⟨_, rfl⟩
    rw [← hx] at HR HC ⊢
    rw [show ((21 : Nat) : Int) = 21 from rfl] at HR
    clear hx hn1 hn2 hlt
    go_enter Try.func36, Try.ntmps36
    go_wp2_with fail
    refine (HAR.out).mono ?_
    rintro e w1 ⟨rfl, rfl⟩
    go_wp2_with fail
    refine (HR.out _).mono ?_
    rintro e w1 ⟨rfl, rfl⟩
    go_wp2_with fail
    refine (HC.out _).mono ?_
    intro e w2 hby
    obtain ⟨A, c, rfl, ho⟩ := hby.of_below HB0.out
    clear hby
    go_wp2
    go_ret
    exact ⟨A, c, rfl, ho⟩
  · rw [if_neg (by omega), if_neg (by omega), if_neg (by omega), if_pos rfl] at hF
    have HS := Lib.hid (fun W : World => short_is s 40 W (by omega))
    rw [show ((40 : Nat) : Int) = 40 from rfl] at HS
    have HF := Lib.hid hF
    clear hn1 hn2 hF
    go_enter Try.func36, Try.ntmps36
    go_wp2_with fail
    refine (HAR.out).mono ?_
    rintro e w1 ⟨rfl, rfl⟩
    go_wp2_with fail
    refine (HS.out _).mono ?_
    rintro e w1 ⟨⟨t, rfl, ht⟩, rfl⟩
    have htl : t.size ≤ 1000 := by
      have h1 : t.data.toList.length = t.size := rfl
      rw [ht, List.length_take] at h1
      omega
    have HC := Lib.hid (fun W : World => rwtext_any t W htl)
    have HT := Lib.hid ht
    clear ht htl HS
    go_wp2_with fail
    refine (HC.out _).mono ?_
    intro e w2 hby
    obtain ⟨A, c, rfl, ho⟩ := hby.of_below HB0.out
    have hFt : Pk.nText t.data.toList = F := by rw [HT.out, HF.out]
    rw [hFt] at ho ⊢
    clear hby hFt
    go_wp2
    go_ret
    exact ⟨A, c, rfl, ho⟩
  · rw [if_neg (by omega), if_neg (by omega), if_neg (by omega), if_neg (by omega), if_pos rfl] at hF
    subst hF
    obtain ⟨t, ht⟩ : ∃ t, t = n.tmod 2 := ⟨_, rfl⟩
    have htb := tmod2_bounds n
    rw [← ht] at htb ⊢
    have htt : n.tmod 2 = t := ht.symm
    have hwt : IntKind.i64.wrap t = t := by rw [IntKind.wrap_i64]; omega
    obtain ⟨b, hb⟩ : ∃ b : Bool, b = decide (t = 0) := ⟨_, rfl⟩
    have hbb : (t == 0) = b := by rw [hb, Bool.eq_iff_iff, beq_iff_eq, decide_eq_true_iff]
    rw [← hb]
    have HC := Lib.hid (fun W : World => rwbool_any b W)
    clear hb ht
    go_enter Try.func36, Try.ntmps36
    go_wp2_with fail
    refine (HAR.out).mono ?_
    rintro e w1 ⟨rfl, rfl⟩
    go_wp2_with fail
    refine (HC.out _).mono ?_
    intro e w2 hby
    obtain ⟨A, c, rfl, ho⟩ := hby.of_below HB0.out
    clear hby
    go_wp2
    go_ret
    exact ⟨A, c, rfl, ho⟩
  · rw [if_neg (by omega), if_neg (by omega), if_neg (by omega), if_neg (by omega), if_neg (by omega)] at hF
    subst hF
    have HC := Lib.hid (fun W : World => rwint_any n W hn1 hn2)
    rcases h01 with rfl | rfl
    all_goals
      go_enter Try.func36, Try.ntmps36
      go_wp2_with fail
      refine (HAR.out).mono ?_
      rintro e w1 ⟨rfl, rfl⟩
      go_wp2_with fail
      refine (HC.out _).mono ?_
      intro e w2 hby
      obtain ⟨A, c, rfl, ho⟩ := hby.of_below HB0.out
      clear hby
      go_wp2
      go_ret
      exact ⟨A, c, rfl, ho⟩

end Go.Proofs.Ytjpdlnemkhofmaa
