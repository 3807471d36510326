/-
  The statements' Has, Same, Values, and an operation's element, the program's and the statements': each is the plain answer, and what was there is left as it was.
-/
import Derived.Test.YtcbcmnbfflaicaaSkm
namespace Go.Proofs.Ytcbcmnbfflaicaa
open Go.RowKit
open Sk (pt)

set_option maxHeartbeats 1000000 in
theorem has_any (l : List Nat) (A : Option Addr) (n c x : Nat) (w : World) (hp : Pt w A n c l) (hb : n ≤ 1000000) :
    Calls Try.prog 25 #[.slice A n c, .int .u64 (x : Int)] w fun e w' => e = .returned (.bool (decide (x ∈ l))) ∧ w = w' := by
  have HP := Lib.hid hp
  have HN := Lib.hid hp.1
  obtain ⟨r, hr⟩ : ∃ r : Bool, r = decide (x ∈ l) := ⟨_, rfl⟩
  rw [← hr]
  have HR := Lib.hid hr
  clear hp hr
  go_enter Try.func25, Try.ntmps25
  go_wp2
  go_loopw [5] (fun i wr => ∃ k : Nat, k ≤ n ∧ i = .int .i64 (k : Int) ∧ x ∉ l.take k ∧ wr = w) (fun i _ => n - (intOf i).toNat)
  case atStart => exact ⟨0, Nat.zero_le _, rfl, by simp, rfl⟩
  case round =>
    obtain ⟨k, hk, rfl, hni, rfl⟩ := hrel
    have HNI := Lib.hid hni
    clear hni
    by_cases hlt : k < n
    · have hs := take_snoc (l := l) (k := k) (by rw [← HN.out]; exact hlt)
      obtain ⟨b, off, rfl, hbb, hc⟩ := HP.out.at_ hlt
      obtain ⟨y, hy⟩ : ∃ y, y = l[k]?.getD 0 := ⟨_, rfl⟩
      rw [← hy] at hs hc
      have q0 : (0 : Int) ≤ (k : Int) := by omega
      have q1 : (k : Int) < (n : Int) := by omega
      by_cases hxy : y = x
      · have hin : r = true := by
          rw [HR.out]
          refine decide_eq_true ?_
          have hm : y ∈ l.take (k + 1) := by rw [hs]; simp
          rw [← hxy]
          exact List.mem_of_mem_take hm
        have HIN := Lib.hid hin
        subst hxy
        clear hs hy hin
        go_wp2
        go_ret
        exact ⟨by rw [HIN.out]; rfl, by first | rfl | trivial⟩
      · have hne : ((y : Int) == (x : Int)) = false := by rw [beq_eq_false_iff_ne]; omega
        have hne2 : ¬ (y : Int) = (x : Int) := by omega
        have hnx : x ∉ l.take (k + 1) := by
          rw [hs, List.mem_append, List.mem_singleton]
          rintro (h | h)
          · exact HNI.out h
          · exact hxy h.symm
        have HNX := Lib.hid hnx
        clear hs hy hnx hxy
        go_wp2
        go_roundw
        case rel => exact ⟨k + 1, hlt, by go_num, HNX.out, by first | rfl | trivial⟩
        case measure => simp [intOf]; omega
    · have e : k = n := by omega
      have hin : r = false := by
        rw [HR.out]
        refine decide_eq_false fun h => HNI.out ?_
        rw [List.take_of_length_le (by have := HN.out; omega)]
        exact h
      have HIN := Lib.hid hin
      subst e
      clear hin
      go_wp2
      go_ret
      exact ⟨by rw [HIN.out]; rfl, by first | rfl | trivial⟩

set_option maxHeartbeats 1000000 in
theorem same10_any (xs ys : List Nat) (A A' : Option Addr) (n c n' c' : Nat) (w : World) (hn : n = xs.length) (hn' : n' = ys.length) (hb : n ≤ 1000000000) (hb' : n' ≤ 1000000000) (hA : Rd w.heap.size w A (u64s xs)) (hA' : Rd w.heap.size w A' (u64s ys)) :
    Calls Try.prog 15 #[.slice A n c, .slice A' n' c'] w fun e w' => e = .returned (.bool (decide (xs = ys))) ∧ Below w.heap.size w w' := by
  by_cases hne : n = n'
  · subst hne
    have HN := Lib.hid hn
    have HN' := Lib.hid hn'
    have HA := Lib.hid hA
    have HA' := Lib.hid hA'
    obtain ⟨r, hr⟩ : ∃ r : Bool, r = decide (xs = ys) := ⟨_, rfl⟩
    rw [← hr]
    have HR := Lib.hid hr
    clear hn hn' hA hA' hr
    go_enter Try.func15, Try.ntmps15
    go_wp2
    go_loopw [5] (fun i wr => ∃ k j : Nat, k ≤ n ∧ i = .int .i64 k ∧ xs.take k = ys.take k ∧ wr = w.drewN j) (fun i _ => n - (intOf i).toNat)
    case atStart => exact ⟨0, 0, Nat.zero_le _, rfl, rfl, rfl⟩
    case round =>
      obtain ⟨k, j, hk, rfl, htk, rfl⟩ := hrel
      have HT := Lib.hid htk
      clear htk
      by_cases hlt : k < n
      · have hx : k < xs.length := by rw [← HN.out]; exact hlt
        have hy : k < ys.length := by rw [← HN'.out]; exact hlt
        obtain ⟨b, off, rfl, hbb, hcx⟩ := HA.out.num hx
        obtain ⟨b2, off2, rfl, hbb2, hcy⟩ := HA'.out.num hy
        have q0 : (0 : Int) ≤ (k : Int) := by omega
        have q1 : (k : Int) < (n : Int) := by omega
        obtain ⟨p, hp⟩ : ∃ p : Nat, p = xs[k]?.getD 0 := ⟨_, rfl⟩
        obtain ⟨q, hq⟩ : ∃ q : Nat, q = ys[k]?.getD 0 := ⟨_, rfl⟩
        have e1 := take_next hx
        have e2 := take_next hy
        rw [← hp] at hcx
        rw [← hq] at hcy
        by_cases hpq : p = q
        · have hxy : xs[k]?.getD 0 = ys[k]?.getD 0 := by rw [← hp, ← hq]; exact hpq
          have hnext : xs.take (k + 1) = ys.take (k + 1) := by rw [e1, e2, HT.out, hxy]
          subst hpq
          have HX := Lib.hid hnext
          clear hp hq e1 e2 hxy hnext hx hy
          go_wp2
          go_quiet (fail)
          go_wp2
          go_roundw
          case rel => exact ⟨k + 1, _, hlt, by go_num, HX.out, rfl⟩
          case measure => simp [intOf]; omega
        · have hfl : r = false := by
            rw [HR.out]
            refine decide_eq_false fun e => hpq ?_
            subst e
            rw [hp, hq]
          have hd : ((p : Int) != (q : Int)) = true := by rw [bne_iff_ne]; omega
          have HF := Lib.hid hfl
          have HQ := Lib.hid hpq
          clear hp hq e1 e2 hx hy hfl hpq
          go_wp2
          go_quiet (fail)
          go_wp2
          go_ret
          exact ⟨by rw [HF.out]; rfl, below_drewN (below_drewN (Below.refl _ _) _) _⟩
      · have hkn : k = n := by omega
        have hfl : r = true := by
          rw [HR.out]
          refine decide_eq_true ?_
          have h := HT.out
          rw [List.take_of_length_le (by rw [← HN.out]; omega), List.take_of_length_le (by rw [← HN'.out]; omega)] at h
          exact h
        have HF := Lib.hid hfl
        clear hfl hkn
        go_wp2
        go_ret
        exact ⟨by rw [HF.out]; rfl, below_drewN (Below.refl _ _) _⟩
  · have hfl : decide (xs = ys) = false := decide_eq_false fun e => hne (by rw [hn, hn', e])
    have hd : ((n : Int) != (n' : Int)) = true := by rw [bne_iff_ne]; omega
    have hd2 : (n != n') = true := by rw [bne_iff_ne]; exact hne
    rw [hfl]
    have HNE := Lib.hid hne
    clear hne hn hn' hA hA' hfl
    go_enter Try.func15, Try.ntmps15
    go_wp2
    go_ret
    exact ⟨rfl, Below.refl _ _⟩

set_option maxHeartbeats 1000000 in
theorem values_any (l : List Nat) (A : Option Addr) (m c n : Nat) (w : World) (hp : Pt w A m c l) (hm : m ≤ 1000) (hl : ∀ y ∈ l, y < 18446744073709551616) (hn : n ≤ 1000) :
    Calls Try.prog 16 #[.slice A m c, .int .i64 (n : Int)] w fun e w' => (∃ z, e = .returned z ∧ Gl w.heap.size w' z (vls l n)) ∧ Below w.heap.size w w' := by
  have HP := Lib.hid hp
  have HL := Lib.hid hl
  have hg0 := Gl.nil w.heap.size w
  have HG0 := Lib.hid hg0
  clear hp hl hg0
  go_enter Try.func16, Try.ntmps16
  go_wp2
  go_loopw [5, 6] (fun o i wr => ∃ k : Nat, k ≤ n ∧ i = .int .i64 (k : Int) ∧ Gl w.heap.size wr o (vls l k) ∧ Below w.heap.size w wr) (fun _ i _ => n - (intOf i).toNat)
  case atStart => exact ⟨0, Nat.zero_le _, rfl, HG0.out, Below.refl _ _⟩
  case round =>
    obtain ⟨k, hk, rfl, hg, hbr⟩ := hrel
    have HG := Lib.hid hg
    have hsz := hbr.size
    clear hg
    by_cases hlt : k < n
    · have hx : (pt k) < 18446744073709551616 := by unfold pt; omega
      obtain ⟨x, hxe⟩ : ∃ x, x = pt k := ⟨_, rfl⟩
      have hpt := rpoint_any k (by omega) wr
      rw [← hxe] at hpt hx
      have hva := rvalue_any l A m c x wr (HP.out.below hbr) (by omega) HL.out
      obtain ⟨v, hv⟩ : ∃ v, v = sv l x := ⟨_, rfl⟩
      rw [← hv] at hva
      have hnx : vls l (k + 1) = vls l k ++ [v] := by unfold vls; rw [Pl.tab_succ, hv, hxe]
      have HPT := Lib.hid hpt
      have HVA := Lib.hid hva
      have HNX := Lib.hid hnx
      clear hpt hva hnx hv hxe
      go_wp2_with fail
      refine HPT.out.mono ?_
      rintro e w1 ⟨rfl, rfl⟩
      go_wp2_with fail
      refine HVA.out.mono ?_
      rintro e w1 ⟨rfl, hb1⟩
      have hg1 := HG.out.below hb1
      have HG1 := Lib.hid hg1
      have hb1' := hbr.trans (hb1.mono hsz)
      have hsz1 := hb1'.size
      clear hg1 hb1
      go_wp2_with (at_builtin; refine wpList_push64 rfl _ _ rfl w.heap.size v _ _ HG1.out rfl rfl (by rw [vls_len]; omega) hsz1 ?_; intro z2 w2 hz2 hb2; have HZ2 := Lib.hid hz2; clear hz2)
      go_roundw
      case rel => exact ⟨k + 1, hlt, by go_num, by rw [HNX.out]; exact HZ2.out, hb1'.trans hb2⟩
      case measure => simp [intOf]; omega
    · have e : k = n := by omega
      subst e
      go_wp2
      go_ret
      exact ⟨⟨_, rfl, HG.out⟩, hbr⟩
end Go.Proofs.Ytcbcmnbfflaicaa
