/-
  The statements' helpers: whether numbers are the same; the first numbers of a list.
-/
import Derived.Test.YtalljoneflepiaaRpc
import Derived.Test.YtalljoneflepiaaRts
import Derived.Test.YtalljoneflepiaaFrb
import Derived.Laws.AppendOwnNone
namespace Go.Proofs.Ytalljoneflepiaa
open Go.RowKit

set_option maxHeartbeats 1000000 in
theorem same64_any (xs ys : List Nat) (A A' : Option Addr) (n c n' c' : Nat) (w : World) (hn : n = xs.length) (hn' : n' = ys.length) (hb : n ≤ 1000000000) (hb' : n' ≤ 1000000000) (hA : Rd w.heap.size w A (u64s xs)) (hA' : Rd w.heap.size w A' (u64s ys)) :
    Calls Try.prog 13 #[.slice A n c, .slice A' n' c'] w fun e w' => e = .returned (.bool (decide (xs = ys))) ∧ Below w.heap.size w w' := by
  by_cases hne : n = n'
  · subst hne
    have HN := Lib.hid hn
    have HN' := Lib.hid hn'
    have HA := Lib.hid hA
    have HA' := Lib.hid hA'
    obtain ⟨r, hr⟩ : ∃ r : Bool, r = decide (xs = ys) := ⟨_, rfl⟩
    rw [← hr]
    have HR := Lib.hid hr
    clear hn hn' hA hA' hr
    go_enter Try.func13, Try.ntmps13
    go_wp2
    go_loopw [5] (fun i wr => ∃ k j : Nat, k ≤ n ∧ i = .int .i64 k ∧ xs.take k = ys.take k ∧ wr = w.drewN j) (fun i _ => n - (intOf i).toNat)
    case atStart => exact ⟨0, 0, Nat.zero_le _, rfl, rfl, rfl⟩
    case round =>
      obtain ⟨k, j, hk, rfl, htk, rfl⟩ := hrel
      have HT := Lib.hid htk
      clear htk
      by_cases hlt : k < n
      · have hx : k < xs.length := by rw [← HN.out]; exact hlt
        have hy : k < ys.length := by rw [← HN'.out]; exact hlt
        obtain ⟨b, off, rfl, hbb, hcx⟩ := HA.out.num hx
        obtain ⟨b2, off2, rfl, hbb2, hcy⟩ := HA'.out.num hy
        have q0 : (0 : Int) ≤ (k : Int) := by omega
        have q1 : (k : Int) < (n : Int) := by omega
        obtain ⟨p, hp⟩ : ∃ p : Nat, p = xs[k]?.getD 0 := ⟨_, rfl⟩
        obtain ⟨q, hq⟩ : ∃ q : Nat, q = ys[k]?.getD 0 := ⟨_, rfl⟩
        have e1 := take_next hx
        have e2 := take_next hy
        rw [← hp] at hcx
        rw [← hq] at hcy
        by_cases hpq : p = q
        · have hxy : xs[k]?.getD 0 = ys[k]?.getD 0 := by rw [← hp, ← hq]; exact hpq
          have hnext : xs.take (k + 1) = ys.take (k + 1) := by rw [e1, e2, HT.out, hxy]
          subst hpq
          have HX := Lib.hid hnext
          clear hp hq e1 e2 hxy hnext hx hy
          go_wp2
          go_quiet (fail)
          go_wp2
          go_roundw
          case rel => exact ⟨k + 1, _, hlt, by go_num, HX.out, rfl⟩
          case measure => simp [intOf]; omega
        · have hfl : r = false := by
            rw [HR.out]
            refine decide_eq_false fun e => hpq ?_
            subst e
            rw [hp, hq]
          have hd : ((p : Int) != (q : Int)) = true := by rw [bne_iff_ne]; omega
          have HF := Lib.hid hfl
          have HQ := Lib.hid hpq
          clear hp hq e1 e2 hx hy hfl hpq
          go_wp2
          go_quiet (fail)
          go_wp2
          go_ret
          exact ⟨by rw [HF.out]; rfl, below_drewN (below_drewN (Below.refl _ _) _) _⟩
      · have hkn : k = n := by omega
        have hfl : r = true := by
          rw [HR.out]
          refine decide_eq_true ?_
          have h := HT.out
          rw [List.take_of_length_le (by rw [← HN.out]; omega), List.take_of_length_le (by rw [← HN'.out]; omega)] at h
          exact h
        have HF := Lib.hid hfl
        clear hfl hkn
        go_wp2
        go_ret
        exact ⟨by rw [HF.out]; rfl, below_drewN (Below.refl _ _) _⟩
  · have hfl : decide (xs = ys) = false := decide_eq_false fun e => hne (by rw [hn, hn', e])
    have hd : ((n : Int) != (n' : Int)) = true := by rw [bne_iff_ne]; omega
    have hd2 : (n != n') = true := by rw [bne_iff_ne]; exact hne
    rw [hfl]
    have HNE := Lib.hid hne
    clear hne hn hn' hA hA' hfl
    go_enter Try.func13, Try.ntmps13
    go_wp2
    go_ret
    exact ⟨rfl, Below.refl _ _⟩

set_option maxHeartbeats 800000 in
theorem nums_any (l : List Nat) (A : Option Addr) (n c most : Nat) (w : World) (hn : n = l.length) (hnc : n ≤ c) (hmost : most ≤ 1000) (hA : Rd w.heap.size w A (u64s l)) (hnil : A = none → c = 0) :
    Calls Try.prog 23 #[.slice A n c, .int .i64 (most : Int)] w fun e w' => ∃ A' c', e = .returned (.slice A' (min n most) c') ∧
      w'.ownsRow w.heap.size 23 1 (.slice A' (min n most) c') (min n most) (u64s (l.take most)) ∧ Below w.heap.size w w' := by
  obtain ⟨i0, hi, hz0, hz1, hz2⟩ := info_parts info_u64
  obtain ⟨k, hk⟩ : ∃ k, k = min n most := ⟨_, rfl⟩
  have hif : (if most < n then (most : Int) else (n : Int)) = (k : Int) := by rw [hk]; split <;> omega
  have hkc : k ≤ c := by omega
  have hk6 : k ≤ 1000 := by omega
  have hsl := slice_head 22 (by kernel_rfl) (fun W => by kernel_rfl) A n c k hkc
  have hlen : (u64s (l.take most)).length = k * 1 := by rw [u64s_len, List.length_take]; omega
  have htk : l.take most = l.take k := by
    rw [hk]
    rcases Nat.le_total n most with h | h
    · rw [List.take_of_length_le (by omega), List.take_of_length_le (by omega)]
    · rw [show min n most = most by omega]
  rw [htk] at hlen
  rw [htk, ← hk]
  have hcell1 : ∀ u ∈ u64s (l.take k), u.oneCell' = true := by
    intro u hu
    obtain ⟨x, _, rfl⟩ := List.mem_map.1 hu
    rfl
  have hnilrow := World.ownsRow_nil w w.heap.size 23 1
  rcases A with _ | ad
  · have h0 := hnil rfl
    obtain rfl : c = 0 := h0
    have hk0 : k = 0 := by omega
    subst hk0
    have HL := Lib.hid hlen
    have HI := Lib.hid hi
    have HN := Lib.hid hnilrow
    clear hlen hi hz0 hz1 hz2 hcell1 hn hk htk hA hnil hnilrow
    go_enter Try.func23, Try.ntmps23
    go_wp2_with (at_builtin; refine wpList_append_own_none rfl _ _ 22 rfl w.heap.size 23 i0 _ Try.underlying22 HI.out _ 0 [] rfl HN.out rfl ?_)
    go_ret
    refine ⟨none, 0, rfl, ?_, Below.refl _ _⟩
    have e : u64s (l.take 0) = [] := rfl
    rw [e]
    exact HN.out
  · have hsrc : ∀ j u, (u64s (l.take k))[j]? = some u → w.cell? (ad.add j) = some u := by
      rcases Nat.eq_zero_or_pos n with h0 | h0
      · have e : l = [] := List.eq_nil_of_length_eq_zero (by omega)
        subst e
        intro j u hu
        simp [u64s] at hu
      · obtain ⟨b, off, e, _, hc⟩ := hA (by rw [u64s_len]; omega)
        injection e with e
        subst e
        exact nums_src l b off w k hc
    have HL := Lib.hid hlen
    have HI := Lib.hid hi
    have HZ0 := Lib.hid hz0
    have HZ1 := Lib.hid hz1
    have HZ2 := Lib.hid hz2
    have HS := Lib.hid hsrc
    have HC := Lib.hid hcell1
    have HN := Lib.hid hnilrow
    clear hlen hi hz0 hz1 hz2 hsrc hcell1 hn hk htk hA hnil hnilrow
    go_enter Try.func23, Try.ntmps23
    go_wp2_with (at_builtin; refine wpList_append_own _ rfl _ _ 22 rfl w.heap.size 23 i0 (.int .u64 0) 1 8 Try.underlying22 HI.out HZ0.out HZ1.out HZ2.out rfl (by decide) _ 0 [] rfl HN.out ad k c (u64s (l.take k)) rfl HL.out HS.out HC.out (by unfold maxLen; omega) (by omega) (Nat.le_refl _) ?_; intro v' w1 hown' hgrow _; have HO := Lib.hid hown'; clear hown')
    go_ret
    have ho := HO.out
    rw [List.nil_append, Nat.zero_add] at ho
    obtain ⟨A', c', rfl⟩ : ∃ A' c', v' = .slice A' k c' := by
      rcases ho.2 with ⟨rfl, h0⟩ | ⟨g, cp, _, rfl, _⟩
      · exact ⟨none, 0, by rw [h0]⟩
      · exact ⟨_, cp, rfl⟩
    exact ⟨A', c', rfl, ho, (Below.refl _ w).grown hgrow (Nat.le_refl _) (fun j e => by cases e)⟩

theorem nums_gl (l : List Nat) (A : Option Addr) (n c most : Nat) (w : World) (hn : n = l.length) (hnc : n ≤ c) (hmost : most ≤ 1000) (hA : Rd w.heap.size w A (u64s l)) (hnil : A = none → c = 0) :
    Calls Try.prog 23 #[.slice A n c, .int .i64 (most : Int)] w fun e w' => (∃ o, e = .returned o ∧ Gl w.heap.size w' o (l.take most)) ∧ Below w.heap.size w w' :=
  (nums_any l A n c most w hn hnc hmost hA hnil).mono fun e w' ⟨A', c', e1, h1, h2⟩ => ⟨⟨_, e1, A', c', by rw [List.length_take, Nat.min_comm, ← hn], by rw [List.length_take, Nat.min_comm, ← hn]; exact h1⟩, h2⟩
end Go.Proofs.Ytalljoneflepiaa
