/-
  Package poly's product's inner function: a list, times a number, added at a place. For lists of numbers of 64 bits, up to a million of them.
-/
import Derived.Test.YtalljoneflepiaaBkw
namespace Go.Proofs.Ytalljoneflepiaa
open Go.RowKit

theorem slice_from (g off n c k q d : Nat) (hk : k ≤ n) (hc : k < c) (hq : q = n - k) (hd : d = c - k) (W : World) :
    (Instr.slice 22 (.slice (some ⟨g, off, none⟩) n c) (some (.int .i64 (k : Int))) none none).run Try.prog W = .ok (.slice (some ⟨g, off + k, none⟩) q d) W := by
  have hz : (sizeOf (Try.prog.elem 22)).run Try.prog W = .ok 1 W := by kernel_rfl
  have h := run_slice_l (P := Try.prog) W 22 (some ⟨g, off, none⟩) n c (by kernel_rfl) .i64 (k : Int) (by omega) (by omega)
  rw [h, hz, hq, hd]
  simp only [Result.andThen, sliced, Int.toNat_natCast]
  rw [if_neg (by omega)]
  simp
  exact Addr.add_lit _ _ _
theorem slice_end (g off n : Nat) (W : World) :
    (Instr.slice 22 (.slice (some ⟨g, off, none⟩) n n) (some (.int .i64 (n : Int))) none none).run Try.prog W = .ok (.slice (some ⟨g, off, none⟩) 0 0) W := by
  have hz : (sizeOf (Try.prog.elem 22)).run Try.prog W = .ok 1 W := by kernel_rfl
  have h := run_slice_l (P := Try.prog) W 22 (some ⟨g, off, none⟩) n n (by kernel_rfl) .i64 (n : Int) (by omega) (by omega)
  rw [h, hz]
  simp only [Result.andThen, sliced, Int.toNat_natCast]
  simp

theorem Rq.drew {g : Nat} {w : World} {A : Option Addr} {vs : List Value} (h : Rq g w A vs) : Rq g w.drew A vs := h
theorem only_of_drew {a w : World} {row : Option Nat} (h : a.drew.grownBy w row) : a.grownBy w row := ⟨h.os, h.tape, h.output, h.size, h.block⟩

set_option maxRecDepth 100000 in
set_option maxHeartbeats 1000000 in
theorem prod1_any (g B5 B3 K k lb cb x : Nat) (L : List Nat) (A : Option Addr) (b : List Nat) (w : World) (h5 : w.cell? ⟨B5, 0, none⟩ = some (.slice (some ⟨g, 0, none⟩) K K)) (h3 : w.cell? ⟨B3, 0, none⟩ = some (.slice A lb cb))
    (hg : Ar w g L) (hL : ∀ y ∈ L, y < 18446744073709551616) (hK : L.length = K) (hk : k + lb ≤ K) (hKb : K ≤ 10000000) (hm : lb = b.length) (hb : ∀ y ∈ b, y < 18446744073709551616) (hx : x < 18446744073709551616) (hA : Rq g w A (u64s b)) :
    Calls Try.prog 67 #[.int .i64 (k : Int), .int .u64 (x : Int), .pointer (some ⟨B5, 0, none⟩), .pointer (some ⟨B3, 0, none⟩)] w fun e w' =>
      e = .returned (.int .i64 ((k : Int) - 1)) ∧ Ar w' g (Pl.up L k b x lb) ∧ w.grownBy w' (some g) := by
  have HG := Lib.hid hg
  have HL := Lib.hid hL
  have HK := Lib.hid hK
  have HM := Lib.hid hm
  have HB := Lib.hid hb
  have HA := Lib.hid hA
  clear hg hL hK hm hb hA
  rcases Nat.lt_or_ge k K with hlt | hge
  · obtain ⟨q, hq⟩ : ∃ q, q = K - k := ⟨_, rfl⟩
    have hsl := slice_from g 0 K K k q q (by omega) hlt hq hq
    rw [Nat.zero_add] at hsl
    have hqb : lb ≤ q := by omega
    have hq6 : q ≤ 1000000000 := by omega
    have HQ := Lib.hid hq
    clear hq
    have q0 : (k : Int) ≤ (K : Int) := by omega
    go_enter Try.func67, Try.ntmps67
    go_wp2_with fail
    go_region_with (go_at_call 43; refine (addTimes_any g k q q L A lb cb b x _ HG.out.drew HL.out (by rw [HK.out]; exact hk) hqb hq6 HM.out HB.out hx HA.out.drew).mono ?_; rintro e w' ⟨⟨r, rfl⟩, hr, hgr⟩; have HR := Lib.hid hr; clear hr)
    all_goals go_wp2
    all_goals go_ret
    all_goals exact ⟨rfl, HR.out, only_of_drew hgr⟩
  · obtain rfl : K = k := by omega
    have hsl := slice_end g 0 K
    have hb0 : lb = 0 := by omega
    subst hb0
    go_enter Try.func67, Try.ntmps67
    go_wp2_with fail
    go_region_with (go_at_call 43; refine (addTimes_any g 0 0 0 L A 0 cb b x _ HG.out.drew HL.out (by omega) (Nat.le_refl _) (by omega) HM.out HB.out hx HA.out.drew).mono ?_; rintro e w' ⟨⟨r, rfl⟩, hr, hgr⟩; have HR := Lib.hid hr; clear hr)
    all_goals go_wp2
    all_goals go_ret
    all_goals exact ⟨rfl, HR.out, only_of_drew hgr⟩
end Go.Proofs.Ytalljoneflepiaa
