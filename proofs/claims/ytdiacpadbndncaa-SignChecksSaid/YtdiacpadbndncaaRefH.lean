/-
  The small helpers of the statements (the first so many of a text, of bytes, of numbers; a number below another; are bytes the same): what they answer; what was there is left as it was.
-/
import Derived.Test.YtdiacpadbndncaaStr
import Derived.Test.YtdiacpadbndncaaOpsC
import Derived.Laws.AppendOwnNone
import Derived.Laws.IdiomStrings
namespace Go.Proofs.Ytdiacpadbndncaa
open Go.RowKit

theorem around_pos (n k : Nat) (w : World) (hn : n < 9223372036854775808) (hk : 0 < k) (hk2 : k ≤ 1000000) :
    Calls Try.prog 17 #[.int .i64 (n : Int), .int .i64 (k : Int)] w fun e w' => e = .returned (.int .i64 ((n % k : Nat) : Int)) ∧ w = w' := by
  have h0 : decide ((n : Int) < 0) = false := decide_eq_false (by omega)
  have hz : ((k : Int) == 0) = false := by rw [beq_eq_false_iff_ne]; omega
  have hr : (n : Int) % (k : Int) = ((n % k : Nat) : Int) := by rw [Int.natCast_emod]
  obtain ⟨r, hre⟩ : ∃ r, r = n % k := ⟨_, rfl⟩
  rw [← hre] at hr ⊢
  have HR := Lib.hid hre
  clear hre
  go_enter Try.func17, Try.ntmps17
  go_wp2
  go_ret
  exact ⟨by show Ending.returned (.int .i64 ((n : Int) % (k : Int))) = _; rw [hr], rfl⟩

theorem around_neg (m k : Nat) (z : Int) (w : World) (hz : z = -((m : Int) + 1)) (hm : m < 9223372036854775808) (hk : 0 < k) (hk2 : k ≤ 1000000) :
    Calls Try.prog 17 #[.int .i64 z, .int .i64 (k : Int)] w fun e w' => e = .returned (.int .i64 ((m % k : Nat) : Int)) ∧ w = w' := by
  have h0 : decide (z < 0) = true := decide_eq_true (by omega)
  have hk0 : ((k : Int) == 0) = false := by rw [beq_eq_false_iff_ne]; omega
  have hw1 : IntKind.i64.wrap (z + 1) = z + 1 := by rw [IntKind.wrap_i64]; omega
  have hw2 : IntKind.i64.wrap (-(z + 1)) = (m : Int) := by rw [IntKind.wrap_i64]; omega
  have hr : (m : Int) % (k : Int) = ((m % k : Nat) : Int) := by rw [Int.natCast_emod]
  obtain ⟨r, hre⟩ : ∃ r, r = m % k := ⟨_, rfl⟩
  rw [← hre] at hr ⊢
  have HR := Lib.hid hre
  have HZ := Lib.hid hz
  clear hre hz
  go_enter Try.func17, Try.ntmps17
  go_wp2
  go_ret
  exact ⟨by show Ending.returned (.int .i64 ((m : Int) % (k : Int))) = _; rw [hr], rfl⟩

theorem around_any (z : Int) (k : Nat) (w : World) (h1 : -9223372036854775808 ≤ z) (h2 : z ≤ 9223372036854775807) (hk : 0 < k) (hk2 : k ≤ 1000000) :
    Calls Try.prog 17 #[.int .i64 z, .int .i64 (k : Int)] w fun e w' => ∃ r : Nat, r < k ∧ e = .returned (.int .i64 (r : Int)) ∧ w = w' := by
  rcases Int.lt_or_le z 0 with h | h
  · exact (around_neg (-(z + 1)).toNat k z w (by omega) (by omega) hk hk2).mono fun _ _ ⟨he, hw⟩ => ⟨_, Nat.mod_lt _ hk, he, hw⟩
  · have e : z = ((z.toNat : Nat) : Int) := by omega
    rw [e]
    exact (around_pos z.toNat k w (by omega) hk hk2).mono fun _ _ ⟨he, hw⟩ => ⟨_, Nat.mod_lt _ hk, he, hw⟩

/-! ### the first numbers, the first bytes, in memory of their own -/
theorem slice_head (T : Nat) (hT : Try.prog.underlying T = some (.slice (Try.prog.elem T))) (hz : ∀ W : World, (sizeOf (Try.prog.elem T)).run Try.prog W = .ok 1 W) (A : Option Addr) (n c k : Nat) (hk : k ≤ c) (W : World) :
    (Instr.slice T (.slice A n c) none (some (.int .i64 (k : Int))) none).run Try.prog W = .ok (.slice A k c) W := by
  have h := run_slice_h (P := Try.prog) W T A n c hT .i64 (k : Int) (by omega) (by omega)
  rw [h, hz]
  simp only [Result.andThen, sliced, Int.toNat_natCast, Nat.zero_mul, Nat.sub_zero]
  congr 2
  rcases A with _ | ad
  · simp
  · simp [Addr.add]

theorem nums_src (l : List Nat) (b off : Nat) (w : World) (k : Nat) (hc : ∀ i u, (u64s l)[i]? = some u → w.cell? ⟨b, off + i, none⟩ = some u) : ∀ j u, (u64s (l.take k))[j]? = some u → w.cell? ((⟨b, off, none⟩ : Addr).add j) = some u := by
  intro j u hu
  rw [Addr.add_lit]
  refine hc j u ?_
  unfold u64s at hu ⊢
  rw [List.getElem?_map, List.getElem?_take] at hu
  rw [List.getElem?_map]
  split at hu
  · exact hu
  · simp at hu

theorem few_src (l : List UInt8) (b off : Nat) (w : World) (k : Nat) (hc : ∀ i u, (u8s l)[i]? = some u → w.cell? ⟨b, off + i, none⟩ = some u) : ∀ j u, (u8s (l.take k))[j]? = some u → w.cell? ((⟨b, off, none⟩ : Addr).add j) = some u := by
  intro j u hu
  rw [Addr.add_lit]
  refine hc j u ?_
  unfold u8s at hu ⊢
  rw [List.getElem?_map, List.getElem?_take] at hu
  rw [List.getElem?_map]
  split at hu
  · exact hu
  · simp at hu

set_option maxHeartbeats 800000 in
theorem few_any (l : List UInt8) (A : Option Addr) (n c most : Nat) (w : World) (hn : n = l.length) (hnc : n ≤ c) (hmost : most ≤ 1000) (hA : Rd w.heap.size w A (u8s l)) (hnil : A = none → c = 0) :
    Calls Try.prog 10 #[.slice A n c, .int .i64 (most : Int)] w fun e w' => ∃ A' c', e = .returned (.slice A' (min n most) c') ∧
      w'.ownsRow w.heap.size 5 1 (.slice A' (min n most) c') (min n most) (u8s (l.take most)) ∧ Below w.heap.size w w' := by
  obtain ⟨i0, hi, hz0, hz1, hz2⟩ := info_parts info_u8
  obtain ⟨k, hk⟩ : ∃ k, k = min n most := ⟨_, rfl⟩
  have hif : (if most < n then (most : Int) else (n : Int)) = (k : Int) := by rw [hk]; split <;> omega
  have hkc : k ≤ c := by omega
  have hk6 : k ≤ 1000 := by omega
  have hsl := slice_head 23 (by kernel_rfl) (fun W => by kernel_rfl) A n c k hkc
  have hlen : (u8s (l.take most)).length = k * 1 := by rw [u8s_len, List.length_take]; omega
  have htk : l.take most = l.take k := by
    rw [hk]
    rcases Nat.le_total n most with h | h
    · rw [List.take_of_length_le (by omega), List.take_of_length_le (by omega)]
    · rw [show min n most = most by omega]
  rw [htk] at hlen
  rw [htk, ← hk]
  have hcell1 : ∀ u ∈ u8s (l.take k), u.oneCell' = true := by
    intro u hu
    obtain ⟨x, _, rfl⟩ := List.mem_map.1 hu
    rfl
  have hnilrow := World.ownsRow_nil w w.heap.size 5 1
  rcases A with _ | ad
  · have h0 := hnil rfl
    obtain rfl : c = 0 := h0
    have hk0 : k = 0 := by omega
    subst hk0
    have HL := Lib.hid hlen
    have HI := Lib.hid hi
    have HN := Lib.hid hnilrow
    clear hlen hi hz0 hz1 hz2 hcell1 hn hk htk hA hnil hnilrow
    go_enter Try.func10, Try.ntmps10
    go_wp2_with (at_builtin; refine wpList_append_own_none rfl _ _ 23 rfl w.heap.size 5 i0 _ Try.underlying23 HI.out _ 0 [] rfl HN.out rfl ?_)
    go_ret
    refine ⟨none, 0, rfl, ?_, Below.refl _ _⟩
    have e : u8s (l.take 0) = [] := rfl
    rw [e]
    exact HN.out
  · have hsrc : ∀ j u, (u8s (l.take k))[j]? = some u → w.cell? (ad.add j) = some u := by
      rcases Nat.eq_zero_or_pos n with h0 | h0
      · have e : l = [] := List.eq_nil_of_length_eq_zero (by omega)
        subst e
        intro j u hu
        simp [u8s] at hu
      · obtain ⟨b, off, e, _, hc⟩ := hA (by rw [u8s_len]; omega)
        injection e with e
        subst e
        exact few_src l b off w k hc
    have HL := Lib.hid hlen
    have HI := Lib.hid hi
    have HZ0 := Lib.hid hz0
    have HZ1 := Lib.hid hz1
    have HZ2 := Lib.hid hz2
    have HS := Lib.hid hsrc
    have HC := Lib.hid hcell1
    have HN := Lib.hid hnilrow
    clear hlen hi hz0 hz1 hz2 hsrc hcell1 hn hk htk hA hnil hnilrow
    go_enter Try.func10, Try.ntmps10
    go_wp2_with (at_builtin; refine wpList_append_own _ rfl _ _ 23 rfl w.heap.size 5 i0 (.int .u8 0) 1 1 Try.underlying23 HI.out HZ0.out HZ1.out HZ2.out rfl (by decide) _ 0 [] rfl HN.out ad k c (u8s (l.take k)) rfl HL.out HS.out HC.out (by unfold maxLen; omega) (by omega) (Nat.le_refl _) ?_; intro v' w1 hown' hgrow _; have HO := Lib.hid hown'; clear hown')
    go_ret
    have ho := HO.out
    rw [List.nil_append, Nat.zero_add] at ho
    obtain ⟨A', c', rfl⟩ : ∃ A' c', v' = .slice A' k c' := by
      rcases ho.2 with ⟨rfl, h0⟩ | ⟨g, cp, _, rfl, _⟩
      · exact ⟨none, 0, by rw [h0]⟩
      · exact ⟨_, cp, rfl⟩
    exact ⟨A', c', rfl, ho, (Below.refl _ w).grown hgrow (Nat.le_refl _) (fun j e => by cases e)⟩

end Go.Proofs.Ytdiacpadbndncaa
