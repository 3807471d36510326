/-
  Package draw's New: draws of which none was drawn, that keep none of what was handed in; what was there is left as it was. For every seed and up to a million numbers.
-/
import Derived.Test.YtmmigancjggpgaaDrw
import Derived.Lib.SliceRun
namespace Go.Proofs.Ytmmigancjggpgaa
open Go.RowKit

theorem kp_own {w : World} {lo : Nat} {v : Value} {l : List Nat} {n : Nat} (h : w.ownsRow lo 22 1 v n (u64s l)) :
    ∃ A c, v = .slice A n c ∧ Kp lo w A l ∧ n = l.length := by
  have hl : n = l.length := by have := h.1; rw [u64s_len] at this; omega
  rcases h.2 with ⟨rfl, h0⟩ | ⟨g, cp, cur, rfl, hg, hb, h1, h2, h3, h4⟩
  · refine ⟨none, 0, by rw [h0], fun hp => absurd hp (by omega), hl⟩
  · refine ⟨_, cp, rfl, fun _ => ⟨g, 0, rfl, hg, ?_, fun i u hu => ?_⟩, hl⟩
    · rcases Nat.lt_or_ge g w.heap.size with h5 | h5
      · exact h5
      · rw [Array.getElem?_eq_none h5] at hb; cases hb
    · rw [Nat.zero_add, cell_block hb i]
      rw [← h4, List.getElem?_take] at hu
      split at hu
      · simpa using hu
      · cases hu

theorem clone_nil (w : World) : Calls Try.prog 19 #[.slice none 0 0] w fun e w' => e = .returned (.slice none 0 0) ∧ w = w' := by
  have q : ∀ (w : World) (a : Option Addr) (n c n' c' : Nat), (binOp .eql 23 (.slice a n c) (.slice none n' c')).run Try.prog w = .ok (.bool a.isNone) w := fun w a n c n' c' => Lib.run_eql_slice_nil w _ _ a n c n' c' Try.underlying23
  go_enter Try.func19, Try.ntmps19
  go_wp2
  go_ret
  exact ⟨rfl, rfl⟩

set_option maxHeartbeats 800000 in
theorem clone_some (ad : Addr) (l : List Nat) (m c : Nat) (w : World) (hm : m = l.length) (hmb : m ≤ 1000000) (hA : Rd w.heap.size w (some ad) (u64s l)) :
    Calls Try.prog 19 #[.slice (some ad) m c] w fun e w' => ∃ v, e = .returned v ∧ w'.ownsRow w.heap.size 22 1 v m (u64s l) ∧ Below w.heap.size w w' := by
  obtain ⟨i0, hi, hz0, hz1, hz2⟩ := info_parts info_u64
  have q : ∀ (w : World) (a : Option Addr) (n c n' c' : Nat), (binOp .eql 23 (.slice a n c) (.slice none n' c')).run Try.prog w = .ok (.bool a.isNone) w := fun w a n c n' c' => Lib.run_eql_slice_nil w _ _ a n c n' c' Try.underlying23
  have hlen : (u64s l).length = m * 1 := by rw [u64s_len]; omega
  have hcell1 : ∀ u ∈ u64s l, u.oneCell' = true := by
    intro u hu
    obtain ⟨x, _, rfl⟩ := List.mem_map.1 hu
    rfl
  have hsrc : ∀ j u, (u64s l)[j]? = some u → (w.alloc (.cells #[] 22)).cell? (ad.add j) = some u := by
    intro j u hu
    have hp : 0 < (u64s l).length := by
      have := (List.getElem?_eq_some_iff.1 hu).1
      omega
    obtain ⟨b, off, e, hb, hc⟩ := hA hp
    injection e with e
    subst e
    rw [Addr.add_lit]
    exact Lib.cell?_alloc_some _ (hc j u hu)
  have hmade := World.ownsRow_made (base := w.heap.size) (e := 22) (size := 1) w #[] 0 (Nat.le_refl _) (Nat.zero_le _) rfl
  have HL := Lib.hid hlen
  have HI := Lib.hid hi
  have HZ0 := Lib.hid hz0
  have HZ1 := Lib.hid hz1
  have HZ2 := Lib.hid hz2
  have HS := Lib.hid hsrc
  have HC := Lib.hid hcell1
  have HN := Lib.hid hmade
  clear hlen hi hz0 hz1 hz2 hsrc hcell1 hmade hm hA
  go_enter Try.func19, Try.ntmps19
  go_wp2_with (at_builtin; refine wpList_append_own _ rfl _ _ 23 rfl w.heap.size 22 i0 (.int .u64 0) 1 8 Try.underlying23 HI.out HZ0.out HZ1.out HZ2.out rfl (by decide) _ 0 [] rfl HN.out ad m c (u64s l) rfl HL.out HS.out HC.out (by unfold maxLen; omega) (by omega) (by simp) ?_; intro v' w1 hown' hgrow _; have HO := Lib.hid hown'; clear hown')
  go_ret
  have ho := HO.out
  rw [List.nil_append, Nat.zero_add] at ho
  exact ⟨_, rfl, ho, ((Below.refl _ w).alloc (Nat.le_refl _) _).grown hgrow (by simp) (fun j e => by injection e with e; exact Nat.le_of_eq e)⟩

theorem clone_any (A : Option Addr) (l : List Nat) (m c : Nat) (w : World) (hm : m = l.length) (hmb : m ≤ 1000000) (hA : Rd w.heap.size w A (u64s l)) (hnil : A = none → m = 0 ∧ c = 0) :
    Calls Try.prog 19 #[.slice A m c] w fun e w' => ∃ A' c', e = .returned (.slice A' m c') ∧ Kp w.heap.size w' A' l ∧ Below w.heap.size w w' := by
  rcases A with _ | ad
  · obtain ⟨rfl, rfl⟩ := hnil rfl
    refine (clone_nil w).mono ?_
    rintro e w' ⟨rfl, rfl⟩
    exact ⟨none, 0, rfl, fun hp => absurd hp (by omega), Below.refl _ _⟩
  · refine (clone_some ad l m c w hm hmb hA).mono ?_
    rintro e w' ⟨v, rfl, ho, hb⟩
    obtain ⟨A', c', rfl, hk, _⟩ := kp_own ho
    exact ⟨A', c', rfl, hk, hb⟩

set_option maxRecDepth 100000 in
set_option maxHeartbeats 1000000 in
theorem new_any (seed : Nat) (A : Option Addr) (l : List Nat) (m c : Nat) (w : World) (hm : m = l.length) (hmb : m ≤ 1000000) (hA : Rd w.heap.size w A (u64s l)) (hnil : A = none → m = 0 ∧ c = 0) :
    Calls Try.prog 11 #[.int .u64 seed, .slice A m c] w fun e w' => ∃ D U, e = .returned (.pointer (some ⟨D, 0, none⟩)) ∧ U < w'.heap.size ∧ Drs w.heap.size w' D U seed l 0 ∧ Below w.heap.size w w' := by
  have HM := Lib.hid hm
  have hA1 : Rd (w.alloc (.cells #[.int .u64 seed] 22)).heap.size (w.alloc (.cells #[.int .u64 seed] 22)) A (u64s l) :=
    (hA.below ((Below.refl _ w).alloc (Nat.le_refl _) _)).more (by simp)
  have hc := clone_any A l m c (w.alloc (.cells #[.int .u64 seed] 22)) hm hmb hA1 hnil
  have hS := blk_new w 22 #[.int .u64 seed]
  have hbw : Below w.heap.size w (w.alloc (.cells #[.int .u64 seed] 22)) := (Below.refl _ w).alloc (Nat.le_refl _) _
  have hsz : (w.alloc (.cells #[.int .u64 seed] 22)).heap.size = w.heap.size + 1 := by simp
  have HC := Lib.hid hc
  have HS := Lib.hid hS
  clear hA hA1 hc hm hnil hS
  go_enter Try.func11, Try.ntmps11
  go_wp2_with fail
  refine (HC.out).mono ?_
  rintro e w1 ⟨A', c', rfl, hk, hb1⟩
  have hS1 := HS.out.below hb1 (by simp)
  clear HC HS
  go_wp2
  go_ret
  have hb2 : Below w.heap.size w w1 := hbw.trans (hb1.mono (by omega))
  have hs1 := hb1.size
  have hK := blk_new w1 23 #[.slice A' m c']
  have hU := blk_new (w1.alloc (.cells #[.slice A' m c'] 23)) 3 #[.int .i64 0]
  have hg : ∀ (W : World) (o : Obj), W.grownBy (W.alloc o) none := fun W o => World.grownBy_alloc W o none
  refine ⟨w1.heap.size + 1 + 1, w1.heap.size + 1, rfl, by simp, ⟨w.heap.size, w1.heap.size, A', c', ⟨by omega, by omega, by omega, by omega⟩, ?_, ?_, ?_, ?_, ?_⟩, ?_⟩
  · have h := blk_new ((w1.alloc (.cells #[.slice A' m c'] 23)).alloc (.cells #[.int .i64 0] 3)) 44 #[.func (.func 20) #[] #[.pointer (some ⟨w1.heap.size + 1, 0, none⟩), .pointer (some ⟨w1.heap.size, 0, none⟩), .pointer (some ⟨w.heap.size, 0, none⟩)], .func (.func 23) #[] #[.pointer (some ⟨w1.heap.size + 1, 0, none⟩)]]
    simp only [World.size_alloc] at h
    exact h
  · simp only [World.size_alloc] at hU
    exact blk_alloc hU _
  · rw [← HM.out]
    exact blk_alloc (blk_alloc hK _) _
  · exact blk_alloc (blk_alloc (blk_alloc hS1 _) _) _
  · have hk2 : Kp w.heap.size w1 A' l := fun hp => by
      obtain ⟨b, off, e, h1, h2, h3⟩ := hk hp
      exact ⟨b, off, e, by omega, h2, h3⟩
    exact ((hk2.grown none (hg _ _) (fun _ e => by cases e)).grown none (hg _ _) (fun _ e => by cases e)).grown none (hg _ _) (fun _ e => by cases e)
  · exact ((hb2.alloc (by omega) _).alloc (by simp; omega) _).alloc (by simp; omega) _

end Go.Proofs.Ytmmigancjggpgaa
