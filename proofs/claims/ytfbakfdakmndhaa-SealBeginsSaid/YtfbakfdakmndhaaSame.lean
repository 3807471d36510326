/-
  The statements' question whether bytes are the same: true just if they are; what was there is left as it was.
-/
import Derived.Test.YtfbakfdakmndhaaRefH
namespace Go.Proofs.Ytfbakfdakmndhaa
open Go.RowKit

theorem byte_cell {w : World} {B : Nat} {A : Option Addr} {xs : List UInt8} (h : Rd B w A (u8s xs)) {k : Nat} (hk : k < xs.length) : ∃ b off, A = some ⟨b, off, none⟩ ∧ b < B ∧ w.cell? ⟨b, off + k, none⟩ = some (.int .u8 ((xs[k]).toNat : Int)) := by
  obtain ⟨b, off, e, hb, hc⟩ := h.at_ (k := k) (by rw [u8s_len]; exact hk)
  exact ⟨b, off, e, hb, by rw [hc]; simp [u8s]⟩

set_option maxHeartbeats 1000000 in
theorem same_any (xs ys : List UInt8) (A A' : Option Addr) (n c n' c' : Nat) (w : World) (hn : n = xs.length) (hn' : n' = ys.length) (hb : n ≤ 1000000000) (hb' : n' ≤ 1000000000) (hA : Rd w.heap.size w A (u8s xs)) (hA' : Rd w.heap.size w A' (u8s ys)) :
    Calls Try.prog 13 #[.slice A n c, .slice A' n' c'] w fun e w' => e = .returned (.bool (decide (xs = ys))) ∧ Below w.heap.size w w' := by
  by_cases hne : n = n'
  · subst hne
    have HN := Lib.hid hn
    have HN' := Lib.hid hn'
    have HA := Lib.hid hA
    have HA' := Lib.hid hA'
    obtain ⟨r, hr⟩ : ∃ r : Bool, r = decide (xs = ys) := ⟨_, rfl⟩
    rw [← hr]
    have HR := Lib.hid hr
    clear hn hn' hA hA' hr
    go_enter Try.func13, Try.ntmps13
    go_wp2
    go_loopw [5] (fun i wr => ∃ k j : Nat, k ≤ n ∧ i = .int .i64 k ∧ xs.take k = ys.take k ∧ wr = w.drewN j) (fun i _ => n - (intOf i).toNat)
    case atStart => exact ⟨0, 0, Nat.zero_le _, rfl, rfl, rfl⟩
    case round =>
      obtain ⟨k, j, hk, rfl, htk, rfl⟩ := hrel
      have HT := Lib.hid htk
      clear htk
      by_cases hlt : k < n
      · have hx : k < xs.length := by rw [← HN.out]; exact hlt
        have hy : k < ys.length := by rw [← HN'.out]; exact hlt
        obtain ⟨b, off, rfl, hbb, hcx⟩ := byte_cell HA.out hx
        obtain ⟨b2, off2, rfl, hbb2, hcy⟩ := byte_cell HA'.out hy
        have q0 : (0 : Int) ≤ (k : Int) := by omega
        have q1 : (k : Int) < (n : Int) := by omega
        obtain ⟨p, hp⟩ : ∃ p : Nat, p = (xs[k]).toNat := ⟨_, rfl⟩
        obtain ⟨q, hq⟩ : ∃ q : Nat, q = (ys[k]).toNat := ⟨_, rfl⟩
        have e1 := List.take_succ_eq_append_getElem hx
        have e2 := List.take_succ_eq_append_getElem hy
        rw [← hp] at hcx
        rw [← hq] at hcy
        by_cases hpq : p = q
        · have hxy : xs[k] = ys[k] := UInt8.toNat_inj.1 (by rw [← hp, ← hq]; exact hpq)
          have hnext : xs.take (k + 1) = ys.take (k + 1) := by rw [e1, e2, HT.out, hxy]
          subst hpq
          have HX := Lib.hid hnext
          clear hp hq e1 e2 hxy hnext hx hy
          go_wp2
          go_quiet (fail)
          go_wp2
          go_roundw
          case rel => exact ⟨k + 1, _, hlt, by go_num, HX.out, rfl⟩
          case measure => simp [intOf]; omega
        · have hfl : r = false := by
            rw [HR.out]
            refine decide_eq_false fun e => hpq ?_
            subst e
            rw [hp, hq]
          have hd : ((p : Int) != (q : Int)) = true := by rw [bne_iff_ne]; omega
          have HF := Lib.hid hfl
          have HQ := Lib.hid hpq
          clear hp hq e1 e2 hx hy hfl hpq
          go_wp2
          go_quiet (fail)
          go_wp2
          go_ret
          exact ⟨by rw [HF.out]; rfl, below_drewN (below_drewN (Below.refl _ _) _) _⟩
      · have hkn : k = n := by omega
        have hfl : r = true := by
          rw [HR.out]
          refine decide_eq_true ?_
          have h := HT.out
          rw [List.take_of_length_le (by rw [← HN.out]; omega), List.take_of_length_le (by rw [← HN'.out]; omega)] at h
          exact h
        have HF := Lib.hid hfl
        clear hfl hkn
        go_wp2
        go_ret
        exact ⟨by rw [HF.out]; rfl, below_drewN (Below.refl _ _) _⟩
  · have hfl : decide (xs = ys) = false := decide_eq_false fun e => hne (by rw [hn, hn', e])
    have hd : ((n : Int) != (n' : Int)) = true := by rw [bne_iff_ne]; omega
    have hd2 : (n != n') = true := by rw [bne_iff_ne]; exact hne
    rw [hfl]
    have HNE := Lib.hid hne
    clear hne hn hn' hA hA' hfl
    go_enter Try.func13, Try.ntmps13
    go_wp2
    go_ret
    exact ⟨rfl, Below.refl _ _⟩

end Go.Proofs.Ytfbakfdakmndhaa
