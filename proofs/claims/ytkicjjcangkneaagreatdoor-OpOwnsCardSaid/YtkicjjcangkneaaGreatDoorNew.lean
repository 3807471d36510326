/-
  Package draw's New: draws of which none was drawn, that keep none of what was handed in; what was there is left as it was. For every seed and up to a million numbers.
-/
import Derived.Test.YtkicjjcangkneaaGreatDoorDrw
import Derived.Lib.SliceRun
namespace Go.Proofs.YtkicjjcangkneaaGreatDoor
open Go.RowKit

theorem kp_own {w : World} {lo : Nat} {v : Value} {l : List Nat} {n : Nat} (h : w.ownsRow lo 25 1 v n (u64s l)) :
    ∃ A c, v = .slice A n c ∧ Kp lo w A l ∧ n = l.length := by
  have hl : n = l.length := by have := h.1; rw [u64s_len] at this; omega
  rcases h.2 with ⟨rfl, h0⟩ | ⟨g, cp, cur, rfl, hg, hb, h1, h2, h3, h4⟩
  · refine ⟨none, 0, by rw [h0], fun hp => absurd hp (by omega), hl⟩
  · refine ⟨_, cp, rfl, fun _ => ⟨g, 0, rfl, hg, ?_, fun i u hu => ?_⟩, hl⟩
    · rcases Nat.lt_or_ge g w.heap.size with h5 | h5
      · exact h5
      · rw [Array.getElem?_eq_none h5] at hb; cases hb
    · rw [Nat.zero_add, cell_block hb i]
      rw [← h4, List.getElem?_take] at hu
      split at hu
      · simpa using hu
      · cases hu

theorem clone_nil (w : World) : Calls Tryz.prog 154 #[.slice none 0 0] w fun e w' => e = .returned (.slice none 0 0) ∧ w = w' := by
  have q : ∀ (w : World) (a : Option Addr) (n c n' c' : Nat), (binOp .eql 29 (.slice a n c) (.slice none n' c')).run Tryz.prog w = .ok (.bool a.isNone) w := fun w a n c n' c' => Lib.run_eql_slice_nil w _ _ a n c n' c' Tryz.underlying29
  go_enter Tryz.func154, Tryz.ntmps154
  go_wp2
  go_ret
  exact ⟨rfl, rfl⟩

set_option maxRecDepth 100000 in
set_option maxHeartbeats 800000 in
theorem clone_some (ad : Addr) (l : List Nat) (m c : Nat) (w : World) (hm : m = l.length) (hmb : m ≤ 1000000) (hA : Rd w.heap.size w (some ad) (u64s l)) :
    Calls Tryz.prog 154 #[.slice (some ad) m c] w fun e w' => ∃ v, e = .returned v ∧ w'.ownsRow w.heap.size 25 1 v m (u64s l) ∧ Below w.heap.size w w' := by
  obtain ⟨i0, hi, hz0, hz1, hz2⟩ := info_parts info_u64
  have q : ∀ (w : World) (a : Option Addr) (n c n' c' : Nat), (binOp .eql 29 (.slice a n c) (.slice none n' c')).run Tryz.prog w = .ok (.bool a.isNone) w := fun w a n c n' c' => Lib.run_eql_slice_nil w _ _ a n c n' c' Tryz.underlying29
  have hlen : (u64s l).length = m * 1 := by rw [u64s_len]; omega
  have hcell1 : ∀ u ∈ u64s l, u.oneCell' = true := by
    intro u hu
    obtain ⟨x, _, rfl⟩ := List.mem_map.1 hu
    rfl
  have hsrc : ∀ j u, (u64s l)[j]? = some u → (w.alloc (.cells #[] 25)).cell? (ad.add j) = some u := by
    intro j u hu
    have hp : 0 < (u64s l).length := by
      have := (List.getElem?_eq_some_iff.1 hu).1
      omega
    obtain ⟨b, off, e, hb, hc⟩ := hA hp
    injection e with e
    subst e
    rw [Addr.add_lit]
    exact Lib.cell?_alloc_some _ (hc j u hu)
  have hmade := World.ownsRow_made (base := w.heap.size) (e := 25) (size := 1) w #[] 0 (Nat.le_refl _) (Nat.zero_le _) rfl
  have HL := Lib.hid hlen
  have HI := Lib.hid hi
  have HZ0 := Lib.hid hz0
  have HZ1 := Lib.hid hz1
  have HZ2 := Lib.hid hz2
  have HS := Lib.hid hsrc
  have HC := Lib.hid hcell1
  have HN := Lib.hid hmade
  clear hlen hi hz0 hz1 hz2 hsrc hcell1 hmade hm hA
  go_enter Tryz.func154, Tryz.ntmps154
  go_wp2_with (at_builtin; refine wpList_append_own _ rfl _ _ 29 rfl w.heap.size 25 i0 (.int .u64 0) 1 8 Tryz.underlying29 HI.out HZ0.out HZ1.out HZ2.out rfl (by decide) _ 0 [] rfl HN.out ad m c (u64s l) rfl HL.out HS.out HC.out (by unfold maxLen; omega) (by omega) (by simp) ?_; intro v' w1 hown' hgrow _; have HO := Lib.hid hown'; clear hown')
  go_ret
  have ho := HO.out
  rw [List.nil_append, Nat.zero_add] at ho
  exact ⟨_, rfl, ho, ((Below.refl _ w).alloc (Nat.le_refl _) _).grown hgrow (by simp) (fun j e => by injection e with e; exact Nat.le_of_eq e)⟩

theorem clone_any (A : Option Addr) (l : List Nat) (m c : Nat) (w : World) (hm : m = l.length) (hmb : m ≤ 1000000) (hA : Rd w.heap.size w A (u64s l)) (hnil : A = none → m = 0 ∧ c = 0) :
    Calls Tryz.prog 154 #[.slice A m c] w fun e w' => ∃ A' c', e = .returned (.slice A' m c') ∧ Kp w.heap.size w' A' l ∧ Below w.heap.size w w' := by
  rcases A with _ | ad
  · obtain ⟨rfl, rfl⟩ := hnil rfl
    refine (clone_nil w).mono ?_
    rintro e w' ⟨rfl, rfl⟩
    exact ⟨none, 0, rfl, fun hp => absurd hp (by omega), Below.refl _ _⟩
  · refine (clone_some ad l m c w hm hmb hA).mono ?_
    rintro e w' ⟨v, rfl, ho, hb⟩
    obtain ⟨A', c', rfl, hk, _⟩ := kp_own ho
    exact ⟨A', c', rfl, hk, hb⟩

end Go.Proofs.YtkicjjcangkneaaGreatDoor
