/-
  The chapter's answer on reading numbers: where a number's last byte stands; a number without a sign, and with one. For up to a million bytes.
-/
import Derived.Test.YtjpdlnemkhofmaaInn
namespace Go.Proofs.Ytjpdlnemkhofmaa
open Go.RowKit
attribute [local go_sem ↓] Go.wp_at_zero Go.wp_at_succ

namespace Pk
/-- How many bytes stand ahead of the first one below 128. -/
def fi : List UInt8 → Nat
  | [] => 0
  | c :: r => if c.toNat < 128 then 0 else fi r + 1
/-- The sevens of some bytes, as a number. -/
def vl : List UInt8 → Nat
  | [] => 0
  | c :: r => c.toNat % 128 + 128 * vl r
theorem fi_le : ∀ l : List UInt8, fi l ≤ l.length
  | [] => Nat.le_refl _
  | c :: r => by
    rw [fi]
    split
    · exact Nat.zero_le _
    · rw [List.length_cons]; have := fi_le r; omega
def sz (l : List UInt8) : Nat := if fi l = l.length then l.length else fi l + 1
def rsev (j : Nat) (l : List UInt8) : R Nat :=
  if 10 < j + sz l ∨ (j + sz l = 10 ∧ 1 < (l.getD (9 - j) 0).toNat) then ⟨0, 0, 7⟩
  else if fi l = l.length then ⟨0, 0, 9⟩
  else if 1 < j + sz l ∧ (l.getD (fi l) 0).toNat = 0 then ⟨0, 0, 7⟩
  else ⟨vl (l.take (fi l + 1)), fi l + 1, 0⟩
theorem fi_low {c : UInt8} {r : List UInt8} (h : c.toNat < 128) : fi (c :: r) = 0 := by rw [fi, if_pos h]
theorem fi_high {c : UInt8} {r : List UInt8} (h : ¬ c.toNat < 128) : fi (c :: r) = fi r + 1 := by rw [fi, if_neg h]
theorem sz_low {c : UInt8} {r : List UInt8} (h : c.toNat < 128) : sz (c :: r) = 1 := by
  unfold sz; rw [fi_low h, if_neg (by rw [List.length_cons]; omega)]
theorem sz_high {c : UInt8} {r : List UInt8} (h : ¬ c.toNat < 128) : sz (c :: r) = sz r + 1 := by
  unfold sz
  rw [fi_high h, List.length_cons]
  by_cases e : fi r = r.length
  · rw [if_pos e, if_pos (by omega)]
  · rw [if_neg e, if_neg (by omega)]
theorem rsev_a {j : Nat} {l : List UInt8} (h1 : 10 < j + sz l ∨ (j + sz l = 10 ∧ 1 < (l.getD (9 - j) 0).toNat)) : rsev j l = ⟨0, 0, 7⟩ := if_pos h1
theorem rsev_b {j : Nat} {l : List UInt8} (h1 : ¬ (10 < j + sz l ∨ (j + sz l = 10 ∧ 1 < (l.getD (9 - j) 0).toNat))) (h2 : fi l = l.length) : rsev j l = ⟨0, 0, 9⟩ := by
  unfold rsev; rw [if_neg h1, if_pos h2]
theorem rsev_c {j : Nat} {l : List UInt8} (h1 : ¬ (10 < j + sz l ∨ (j + sz l = 10 ∧ 1 < (l.getD (9 - j) 0).toNat))) (h2 : ¬ fi l = l.length) (h3 : 1 < j + sz l ∧ (l.getD (fi l) 0).toNat = 0) : rsev j l = ⟨0, 0, 7⟩ := by
  unfold rsev; rw [if_neg h1, if_neg h2, if_pos h3]
theorem rsev_d {j : Nat} {l : List UInt8} (h1 : ¬ (10 < j + sz l ∨ (j + sz l = 10 ∧ 1 < (l.getD (9 - j) 0).toNat))) (h2 : ¬ fi l = l.length) (h3 : ¬ (1 < j + sz l ∧ (l.getD (fi l) 0).toNat = 0)) : rsev j l = ⟨vl (l.take (fi l + 1)), fi l + 1, 0⟩ := by
  unfold rsev; rw [if_neg h1, if_neg h2, if_neg h3]
theorem sev_ref : ∀ (l : List UInt8) (j : Nat), j ≤ 9 → sev j l = rsev j l
  | [], j, hj => by
    rw [sev_nil, rsev_b (by show ¬ (10 < j + 0 ∨ (j + 0 = 10 ∧ _)); omega) rfl]
  | c :: r, j, hj => by
    have hb := c.toNat_lt
    by_cases hc : c.toNat < 128
    · have hs := sz_low (r := r) hc
      have hf := fi_low (r := r) hc
      have hne : ¬ fi (c :: r) = (c :: r).length := by rw [hf, List.length_cons]; omega
      have h0 : ((c :: r).getD (fi (c :: r)) 0) = c := by rw [hf]; rfl
      by_cases h : (0 < j ∧ c.toNat = 0) ∨ (j = 9 ∧ 1 < c.toNat)
      · rw [sev_bad h]
        by_cases h9 : j = 9 ∧ 1 < c.toNat
        · obtain ⟨rfl, h1⟩ := h9
          rw [rsev_a (j := 9) (l := c :: r) (.inr ⟨by omega, h1⟩)]
        · have h91 : ¬ (j = 9 ∧ 1 < ((c :: r).getD (9 - j) 0).toNat) := fun h => h9 ⟨h.1, by have h2 := h.2; rw [h.1] at h2; exact h2⟩
          rw [rsev_c (by omega) hne ⟨by omega, by rw [h0]; omega⟩]
      · rw [sev_last h hc]
        have h91 : ¬ (j = 9 ∧ 1 < ((c :: r).getD (9 - j) 0).toNat) := fun h' => h (.inr ⟨h'.1, by have h2 := h'.2; rw [h'.1] at h2; exact h2⟩)
        rw [rsev_d (by omega) hne (by rw [h0]; omega), hf]
        have e2 : vl ((c :: r).take (0 + 1)) = c.toNat := by show c.toNat % 128 + 128 * 0 = _; omega
        rw [e2]
    · have hs := sz_high (r := r) hc
      have hf := fi_high (r := r) hc
      by_cases h9 : j = 9
      · subst h9
        rw [sev_bad (.inr ⟨rfl, by omega⟩)]
        rcases Nat.eq_zero_or_pos (sz r) with h | h
        · rw [rsev_a (.inr ⟨by omega, by show 1 < c.toNat; omega⟩)]
        · rw [rsev_a (.inl (by omega))]
      · rw [sev_more (by omega) hc, sev_ref r (j + 1) (by omega)]
        have e1 : (c :: r).getD (9 - j) 0 = r.getD (9 - (j + 1)) 0 := by
          rw [show 9 - j = (9 - (j + 1)) + 1 by omega]; rfl
        have e2 : (c :: r).getD (fi (c :: r)) 0 = r.getD (fi r) 0 := by rw [hf]; rfl
        have e3 : (c :: r).length = r.length + 1 := List.length_cons
        by_cases h1 : 10 < j + 1 + sz r ∨ (j + 1 + sz r = 10 ∧ 1 < (r.getD (9 - (j + 1)) 0).toNat)
        · rw [rsev_a h1, rsev_a (by rw [e1]; omega), lift_bad _ _ (by show (7 : Int) ≠ 0; decide)]
        · by_cases h2 : fi r = r.length
          · rw [rsev_b h1 h2, rsev_b (by rw [e1]; omega) (by omega), lift_bad _ _ (by show (9 : Int) ≠ 0; decide)]
          · by_cases h3 : 1 < j + 1 + sz r ∧ (r.getD (fi r) 0).toNat = 0
            · rw [rsev_c h1 h2 h3, rsev_c (by rw [e1]; omega) (by omega) (by rw [e2]; omega), lift_bad _ _ (by show (7 : Int) ≠ 0; decide)]
            · have hz : 0 < sz r := by unfold sz; split <;> omega
              rw [rsev_d h1 h2 h3, rsev_d (by rw [e1]; omega) (by omega) (by rw [e2]; omega), lift_zero _ _ rfl, hf, List.take_succ_cons, vl]
              generalize vl (r.take (fi r + 1)) = V
              have e : c.toNat - 128 + 128 ^ 1 * V = c.toNat % 128 + 128 * V := by rw [Nat.pow_one]; omega
              show R.mk (c.toNat - 128 + 128 ^ 1 * V) (fi r + 1 + 1) 0 = _
              rw [e]
theorem vl_drop : ∀ (l : List UInt8) (t : Nat), vl (l.drop t) ≤ vl l
  | [], t => by rw [List.drop_nil]; exact Nat.le_refl _
  | c :: r, 0 => Nat.le_refl _
  | c :: r, t + 1 => by
    rw [List.drop_succ_cons]
    have := vl_drop r t
    show _ ≤ c.toNat % 128 + 128 * vl r
    omega
/-- Where the number at place k ends. -/
def ans (l : List UInt8) (k : Nat) : Int := if fi (l.drop k) = (l.drop k).length then -1 else ((k + fi (l.drop k) : Nat) : Int)
theorem ans_end (l : List UInt8) : ans l l.length = -1 := by unfold ans; rw [List.drop_length]; rfl
theorem ans_here (l : List UInt8) (k : Nat) (hk : k < l.length) (h : (l[k]).toNat < 128) : ans l k = (k : Int) := by
  unfold ans
  rw [drop_one l k hk, fi_low h, if_neg (by rw [List.length_cons]; omega)]
  rfl
theorem ans_next (l : List UInt8) (k : Nat) (hk : k < l.length) (h : ¬ (l[k]).toNat < 128) : ans l k = ans l (k + 1) := by
  unfold ans
  rw [drop_one l k hk, fi_high h, List.length_cons]
  by_cases e : fi (l.drop (k + 1)) = (l.drop (k + 1)).length
  · rw [if_pos e, if_pos (by omega)]
  · rw [if_neg e, if_neg (by omega)]
    omega
end Pk

theorem rd_at {lo : Nat} {w : World} {A : Option Addr} {l : List UInt8} (h : Rd lo w A (u8s l)) (j : Nat) (hj : j < l.length) : ∃ b off, A = some ⟨b, off, none⟩ ∧ w.cell? ⟨b, off + j, none⟩ = some (.int .u8 ((l[j]).toNat : Int)) := by
  obtain ⟨b, off, e, _, hc⟩ := h (by rw [u8s_len]; omega)
  exact ⟨b, off, e, hc j _ (by unfold u8s; rw [List.getElem?_map, List.getElem?_eq_getElem hj]; rfl)⟩

set_option maxHeartbeats 400000 in
theorem end_any {lo : Nat} {A : Option Addr} {l : List UInt8} {m c k : Nat} {w : World} (hm : m = l.length) (hmb : m ≤ 1000000) (hk : k ≤ m) (hA : Rd lo w A (u8s l)) :
    Calls Try.prog 66 #[.slice A m c, .int .i64 (k : Int)] w fun e w' => e = .returned (.int .i64 (Pk.ans l k)) ∧ w = w' := by
  obtain ⟨z, hz⟩ : ∃ z, z = Pk.ans l k := ⟨_, rfl⟩
  rw [← hz]
  have HM := Lib.hid hm
  have HA := Lib.hid hA
  have HZ := Lib.hid hz
  clear hm hA hz
  go_enter Try.func66, Try.ntmps66
  go_wp2
  go_loop [1] (fun i => ∃ j : Nat, i = .int .i64 j ∧ j ≤ m ∧ z = Pk.ans l j) (fun i => m - (intOf i).toNat)
  case atStart => exact ⟨k, rfl, hk, HZ.out⟩
  case round =>
    obtain ⟨j, rfl, hj, hz⟩ := hrel
    clear HZ
    by_cases hlt : j < m
    · have hjl : j < l.length := by rw [← HM.out]; exact hlt
      obtain ⟨b, off, rfl, hcell⟩ := rd_at HA.out j hjl
      have hn := Pk.ans_next l j hjl
      have hh := Pk.ans_here l j hjl
      have hb := (l[j]).toNat_lt
      obtain ⟨x, hx⟩ : ∃ x, x = (l[j]).toNat := ⟨_, rfl⟩
      rw [← hx] at hcell hn hh hb
      by_cases hx8 : x < 128
      · have hzj := hz.trans (hh hx8)
        have HZ := Lib.hid hzj
        have h8 : (x : Int) < 128 := by omega
        clear hz hn hh hx hzj hx8
        go_wp2
        go_ret
        exact ⟨ret_i64' HZ.out.symm, rfl⟩
      · have hzj := hz.trans (hn hx8)
        have HZ := Lib.hid hzj
        have h8 : ¬ (x : Int) < 128 := by omega
        clear hz hn hh hx hzj hx8
        go_wp2
        go_round
        case rel => exact ⟨j + 1, by go_num, by omega, HZ.out⟩
        case measure => simp [intOf]; omega
    · have hjm : j = m := by omega
      have hzj : z = -1 := by rw [hz, hjm, HM.out, Pk.ans_end]
      have HZ := Lib.hid hzj
      clear hz hzj hjm
      go_wp2
      go_ret
      exact ⟨ret_i64' HZ.out.symm, rfl⟩

end Go.Proofs.Ytjpdlnemkhofmaa
