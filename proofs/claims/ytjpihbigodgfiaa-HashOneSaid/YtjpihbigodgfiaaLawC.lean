/-
  The statements HashOne and HashByte: the walks, over natural numbers and lists. No condition but what fits memory.
-/
import Derived.Test.YtjpihbigodgfiaaLawB
import Derived.Test.YtjpihbigodgfiaaTells
namespace Go.Proofs.Ytjpihbigodgfiaa
open Go.RowKit
attribute [local go_sem ↓] Go.wp_at_zero Go.wp_at_succ

/-! ### HashOne -/
set_option maxRecDepth 100000 in
set_option maxHeartbeats 4000000 in
theorem one_walk (s : ByteArray) (l : List Nat) (A : Option Addr) (n c : Nat) (at_ : Int) (other : Nat) (w : World) (hn : n = l.length) (hnc : n ≤ c) (hl : ∀ x ∈ l, x < 18446744073709551616) (hA : Rd w.heap.size w A (u64s l)) (hnil : A = none → c = 0)
    (ha1 : -9223372036854775808 ≤ at_) (ha2 : at_ ≤ 9223372036854775807) (ho : other < 18446744073709551616) :
    Calls Try.prog 7 #[.string s, .slice A n c, .int .i64 at_, .int .u64 other] w fun e w' => e = .returned (.bool true) ∧ Below w.heap.size w w' := by
  obtain ⟨i0, hi, hz0, hz1, hz2⟩ := info_parts info_u64
  have hnums := nums_any l A n c 5 w hn hnc (by omega) hA hnil
  have HNUMS := Lib.hid hnums
  have HL := Lib.hid hl
  have HN := Lib.hid hn
  have HI := Lib.hid hi
  have HZ0 := Lib.hid hz0
  have HZ1 := Lib.hid hz1
  have HZ2 := Lib.hid hz2
  clear hnums hl hn hA hnil hi hz0 hz1 hz2
  go_enter Try.func7, Try.ntmps7
  go_wp2_with fail
  refine (short_any s 20 w (by omega)).mono ?_
  rintro e w' ⟨t, rfl, ht, rfl⟩
  go_wp2_with fail
  refine (HNUMS.out).mono ?_
  rintro e w1 ⟨A1, c1, rfl, hrow, hb1⟩
  have HK := Lib.hid (show min n 5 = (l.take 5).length by rw [List.length_take, ← HN.out, Nat.min_comm])
  obtain ⟨k, hk⟩ : ∃ k, k = min n 5 := ⟨_, rfl⟩
  have hk5 : k ≤ 5 := by omega
  rw [← hk] at HK hrow ⊢
  have HROW := Lib.hid hrow
  obtain ⟨N, hN⟩ : ∃ N, N = l.take 5 ++ [7] := ⟨_, rfl⟩
  have hNl : k + 1 = N.length := by rw [hN, List.length_append, ← HK.out]; rfl
  have hNlt : ∀ x ∈ N, x < 18446744073709551616 := by
    intro x hx
    rw [hN] at hx
    rcases List.mem_append.1 hx with h | h
    · exact HL.out x (List.mem_of_mem_take h)
    · rw [List.mem_singleton.1 h]; omega
  have HSN := Lib.hid (show u64s (l.take 5) ++ [.int .u64 ((7 : Nat) : Int)] = u64s N by rw [hN, u64s_snoc])
  have HNL := Lib.hid hNl
  have HNLT := Lib.hid hNlt
  clear hk hrow hN hNl hNlt
  go_wp2_with (at_builtin; refine wpList_append_own _ rfl _ _ 22 rfl w.heap.size 25 i0 (.int .u64 0) 1 8 Try.underlying22 HI.out HZ0.out HZ1.out HZ2.out rfl (by decide) _ _ _ rfl (HROW.out.alloc _) ⟨w1.heap.size, 0, none⟩ 1 1 [.int .u64 ((7 : Nat) : Int)] rfl rfl (cell_one_new _ _ _) (by simp [Value.oneCell']) (by unfold maxLen; omega) (by omega) (by have := hb1.size; simp; omega) ?_; intro v' w2 hown' hgrow _; obtain ⟨g1, cap1, rfl⟩ := ownsRow_succ hown'; have HOWN := Lib.hid hown'; clear hown')
  have hg2 : (w1.alloc (.cells #[.int .u64 7] 25)).grownBy w2 (Value.slice A1 k c1).ownBlock := hgrow
  have hb2 : Below w.heap.size w w2 := hb1.trans (((Below.refl _ w1).alloc hb1.size _).grown hg2 (by simp; have := hb1.size; omega) (fun j e => (HROW.out.lt j e).1))
  have hrow2 : w2.ownsRow w.heap.size 25 1 (.slice (some ⟨g1, 0, none⟩) (k + 1) cap1) (k + 1) (u64s N) := HSN.out ▸ HOWN.out
  have hcap : k + 1 ≤ cap1 := by
    rcases hrow2.2 with ⟨h, h0⟩ | ⟨g, cp, _, h, _, _, hle, _⟩
    · omega
    · injection h with _ _ h; omega
  have HR2 := Lib.hid (Rd.of_own hrow2)
  have hnums2 := nums_any N (some ⟨g1, 0, none⟩) (k + 1) cap1 6 w2 HNL.out hcap (by omega) HR2.out (fun h => by cases h)
  rw [show min (k + 1) 6 = k + 1 by omega, List.take_of_length_le (by rw [← HNL.out]; omega)] at hnums2
  have HNUMS2 := Lib.hid hnums2
  obtain ⟨K, hK⟩ : ∃ K, K = k + 1 := ⟨_, rfl⟩
  have hK0 : 0 < K := by omega
  have hK6 : K ≤ 6 := by omega
  rw [← hK] at HNL HNUMS2 ⊢
  clear hgrow hg2 hrow2 hnums2 hcap hK
  go_wp2_with fail
  refine (HNUMS2.out).mono ?_
  rintro e w3 ⟨A3, c3, rfl, hrow3, hb3⟩
  obtain ⟨g3, rfl⟩ : ∃ g3, A3 = some ⟨g3, 0, none⟩ := by
    rcases hrow3.2 with ⟨h, h0⟩ | ⟨g, cp, _, h, _⟩
    · omega
    · injection h with h _ _; exact ⟨g, h⟩
  have HROW3 := Lib.hid hrow3
  clear hrow3
  go_wp2_with fail
  refine (around_any at_ K w3 ha1 ha2 hK0 (by omega)).mono ?_
  rintro e w' ⟨r, hr, rfl, rfl⟩
  have hrN : r < N.length := by rw [← HNL.out]; exact hr
  have hcell3 : w3.cell? ⟨g3, r, none⟩ = some (.int .u64 (N[r] : Nat)) := by
    rw [HROW3.out.cellAt r (by omega)]
    simp [u64s, hrN]
  have hfr3 : w3.frozen? ⟨g3, r, none⟩ = false := HROW3.out.frozenAt r
  obtain ⟨x, hx⟩ : ∃ x : Nat, x = N[r] := ⟨_, rfl⟩
  rw [← hx] at hcell3
  have HX := Lib.hid hx
  clear hx
  have q0 : (0 : Int) ≤ (r : Int) := by omega
  have q1 : (r : Int) < (K : Int) := by omega
  go_wp2
  have hst := HROW3.out.stored r (.int .u64 (other : Int))
  obtain ⟨w4, hw4⟩ : ∃ w4, w4 = w3.setCell ⟨g3, r, none⟩ (.int .u64 (other : Int)) := ⟨_, rfl⟩
  rw [← hw4] at hst ⊢
  obtain ⟨hrow4, hgr4⟩ := hst
  have hg3 : w2.heap.size ≤ g3 := (HROW3.out.lt g3 rfl).1
  have hb4 : Below w2.heap.size w2 w4 := hb3.trans (below_only hgr4 hg3 hb3.size)
  have hset : (u64s N).set r (.int .u64 (other : Int)) = u64s (N.set r other) := by unfold u64s; rw [List.map_set]
  rw [hset] at hrow4
  have hRN := (HR2.out.below hb4).more hb4.size
  have hRM := Rd.of_own hrow4
  have hcN : w4.cell? ⟨g1, r, none⟩ = some (.int .u64 (x : Nat)) := by
    obtain ⟨b, off, e, _, hcl⟩ := hRN.at_ (k := r) (by rw [u64s_len]; exact hrN)
    injection e with e
    injection e with e1 e2
    subst e1 e2
    rw [Nat.zero_add] at hcl
    rw [hcl, HX.out]
    simp [u64s]
  have hg1 : g1 < w4.heap.size := cell_lt hcN
  have hset2 := Hsh.of_set t.data.toList N r other hrN
  rw [← HX.out] at hset2
  have hMlt : ∀ y ∈ N.set r other, y < 18446744073709551616 := by
    intro y hy
    rcases List.mem_or_eq_of_mem_set hy with h | h
    · exact HNLT.out y h
    · rw [h]; exact ho
  have k1 := fun (W : World) (hW : Below w4.heap.size w4 W) => (of_any t (some ⟨g1, 0, none⟩) K cap1 N W (by omega) HNL.out (by omega) HNLT.out ((hRN.below hW).more hW.size)).mono fun _ _ ⟨he, hb⟩ => (⟨he, hW.trans (hb.mono hW.size)⟩ : _ ∧ Below w4.heap.size w4 _)
  have k2 := fun (W : World) (hW : Below w4.heap.size w4 W) => (of_any t (some ⟨g3, 0, none⟩) K c3 (N.set r other) W (by omega) (by rw [List.length_set]; exact HNL.out) (by omega) hMlt ((hRM.below hW).more hW.size)).mono fun _ _ ⟨he, hb⟩ => (⟨he, hW.trans (hb.mono hW.size)⟩ : _ ∧ Below w4.heap.size w4 _)
  have k3 := fun (W : World) (hW : Below w4.heap.size w4 W) => (lives_any W).mono fun _ _ ⟨he, hb⟩ => (⟨he, hW.trans (hb.mono hW.size)⟩ : _ ∧ Below w4.heap.size w4 _)
  obtain ⟨y1, hy1⟩ : ∃ y : Nat, y = Hsh.of t.data.toList N := ⟨_, rfl⟩
  obtain ⟨y2, hy2⟩ : ∃ y : Nat, y = Hsh.of t.data.toList (N.set r other) := ⟨_, rfl⟩
  rw [← hy1] at k1 hset2
  rw [← hy2] at k2 hset2
  obtain ⟨p, hp⟩ : ∃ p : Nat, p = x % 2305843009213693951 := ⟨_, rfl⟩
  obtain ⟨p2, hp2⟩ : ∃ p : Nat, p = other % 2305843009213693951 := ⟨_, rfl⟩
  have hiff : y1 = y2 ↔ p = p2 := by rw [hset2, hp, hp2, Fld.P_val]
  have m1 : (x : Int) % 2305843009213693951 = (p : Int) := by omega
  have m2 : (other : Int) % 2305843009213693951 = (p2 : Int) := by omega
  have m3 : (x : Int).tmod 2305843009213693951 = (p : Int) := by rw [Int.tmod_eq_emod_of_nonneg (Int.natCast_nonneg _)]; exact m1
  have m4 : (other : Int).tmod 2305843009213693951 = (p2 : Int) := by rw [Int.tmod_eq_emod_of_nonneg (Int.natCast_nonneg _)]; exact m2
  have hfin : Below w.heap.size w w4 := hb2.trans (hb4.mono hb2.size)
  have K1 := Lib.hid k1
  have K2 := Lib.hid k2
  have K3 := Lib.hid k3
  have HIFF := Lib.hid hiff
  have HFIN := Lib.hid hfin
  clear k1 k2 k3 hiff hfin hy1 hy2 hp hp2 hset2 hset hrow4 hgr4 hRN hRM hw4 hcell3 hfr3 hMlt
  by_cases hpp : p = p2
  · have hyy : y1 = y2 := HIFF.out.2 hpp
    subst hpp hyy
    go_region_with (first
      | (go_at_call 13; ((with_reducible refine (K1.out _ (by first | exact Below.refl _ _ | exact below_to_drew (Below.refl _ _))).mono ?_); rintro e w5 ⟨rfl, hb5⟩; have hcN5 := (hb5.cell (p := ⟨g1, r, none⟩) hg1).trans hcN))
      | (go_at_call 13; ((with_reducible refine (K2.out _ (by first | exact hb5 | exact below_to_drew hb5)).mono ?_); rintro e w6 ⟨rfl, hb6⟩; have hcN6 := (hb6.cell (p := ⟨g1, r, none⟩) hg1).trans hcN))
      | (go_at_call 15; ((with_reducible refine (K3.out _ (by first | exact hb6 | exact below_to_drew hb6)).mono ?_); rintro e w7 ⟨rfl, hb7⟩)))
    all_goals
      go_wp2
      go_ret
      exact ⟨rfl, kept_trans HFIN.out hb7⟩
  · have hyy : ¬ y1 = y2 := fun h => hpp (HIFF.out.1 h)
    have e1 : ((y1 : Int) == (y2 : Int)) = false := by rw [beq_eq_false_iff_ne]; omega
    have e2 : ((p : Int) == (p2 : Int)) = false := by rw [beq_eq_false_iff_ne]; omega
    clear hpp hyy
    go_region_with (first
      | (go_at_call 13; ((with_reducible refine (K1.out _ (by first | exact Below.refl _ _ | exact below_to_drew (Below.refl _ _))).mono ?_); rintro e w5 ⟨rfl, hb5⟩; have hcN5 := (hb5.cell (p := ⟨g1, r, none⟩) hg1).trans hcN))
      | (go_at_call 13; ((with_reducible refine (K2.out _ (by first | exact hb5 | exact below_to_drew hb5)).mono ?_); rintro e w6 ⟨rfl, hb6⟩; have hcN6 := (hb6.cell (p := ⟨g1, r, none⟩) hg1).trans hcN))
      | (go_at_call 15; ((with_reducible refine (K3.out _ (by first | exact hb6 | exact below_to_drew hb6)).mono ?_); rintro e w7 ⟨rfl, hb7⟩)))
    all_goals
      go_wp2
      go_ret
      exact ⟨rfl, kept_trans HFIN.out hb7⟩

end Go.Proofs.Ytjpihbigodgfiaa
