/-
  Package poly's cut, Trim and Add: what they tell is the trimmed polynomial, in memory of its own; what was there is left as it was. For lists of numbers of 64 bits, up to a million of them.
-/
import Derived.Test.YtalljoneflepiaaAdt
namespace Go.Proofs.Ytalljoneflepiaa
open Go.RowKit

def Cutted (g c n : Nat) (L : List Nat) (w : World) (e : Ending) (w' : World) : Prop :=
  ∃ m, m ≤ n ∧ e = .returned (.slice (some ⟨g, 0, none⟩) m c) ∧ Pl.Is (L.take m) (Pl.co (L.take n)) ∧ w = w'

theorem take_get (L : List Nat) (m i : Nat) (h : i < m) : (L.take m)[i]?.getD 0 = L[i]?.getD 0 := by rw [List.getElem?_take, if_pos h]

set_option maxRecDepth 100000 in
set_option maxHeartbeats 1000000 in
theorem cut_any (g n c : Nat) (L : List Nat) (w : World) (hg : Ar w g L) (hL : Pl.Sm (L.take n)) (hn : n ≤ L.length) (hc : n ≤ c) (hb : n ≤ 1000000000) :
    Calls Try.prog 44 #[.slice (some ⟨g, 0, none⟩) n c] w (Cutted g c n L w) := by
  have HG := Lib.hid hg
  have HL := Lib.hid hL
  clear hg hL
  go_enter Try.func44, Try.ntmps44
  go_wp2
  go_loop [0] (fun s => ∃ m : Nat, s = .slice (some ⟨g, 0, none⟩) m c ∧ m ≤ n ∧ Pl.co (L.take m) = Pl.co (L.take n)) (fun s => match s with | .slice _ m _ => m | _ => 0)
  case atStart => exact ⟨n, rfl, Nat.le_refl _, rfl⟩
  case round =>
    obtain ⟨m, rfl, hm, hco⟩ := hrel
    have HC := Lib.hid hco
    clear hco
    cases m with
    | zero =>
      go_wp2
      go_ret
      refine ⟨0, Nat.zero_le _, rfl, ⟨?_, HC.out⟩, rfl⟩
      rw [List.take_zero]; exact Pl.Tr.nil
    | succ j =>
      have c1 := HG.out.cell (i := j) (by omega)
      obtain ⟨x, hx⟩ : ∃ x, x = L[j]?.getD 0 := ⟨_, rfl⟩
      rw [← hx] at c1
      have HX := Lib.hid hx
      clear hx
      have hsl := slice_head 22 (by kernel_rfl) (fun W => by kernel_rfl) (some ⟨g, 0, none⟩) (j + 1) c j (by omega)
      by_cases h0 : x = 0
      · have hd : ((x : Int) == 0) = true := by rw [h0]; rfl
        have H0 := Lib.hid h0
        clear h0
        go_wp2
        go_round
        case rel => exact ⟨j, rfl, by omega, by rw [← HC.out]; exact Pl.co_take_zero (by rw [← HX.out]; exact H0.out)⟩
        case measure => simp
      · have hd : ((x : Int) == 0) = false := by rw [beq_eq_false_iff_ne]; omega
        have H0 := Lib.hid h0
        clear h0
        go_wp2
        go_ret
        refine ⟨j + 1, hm, rfl, ⟨⟨?_, .inr ?_⟩, HC.out⟩, rfl⟩
        · have h := HL.out.take (j + 1)
          rw [List.take_take, Nat.min_eq_left hm] at h
          exact h
        · rw [List.length_take, Nat.min_eq_left (by omega), Nat.add_sub_cancel, take_get _ _ _ (by omega), ← HX.out]
          exact H0.out

theorem zeros_cells (n : Nat) : madeCells #[.int .u64 0] (n * 1) = (u64s (List.replicate n 0)).toArray := by
  apply Array.ext
  · rw [size_madeCells, Nat.mul_one]; simp [u64s]
  · intro i h1 h2
    simp [madeCells, u64s, Nat.mod_one]
theorem mk64 (n : Nat) (hn : n ≤ 10000000) (W : World) :
    (Instr.makeSlice 22 (.int .i64 (n : Int)) (.int .i64 (n : Int))).run Try.prog W = .ok (.slice (some ⟨W.heap.size, 0, none⟩) n n) (W.alloc (.cells (u64s (List.replicate n 0)).toArray 23)) := by
  obtain ⟨i0, hi, hz0, hz1, hz2⟩ := info_parts info_u64
  have h := run_make (P := Try.prog) W 22 23 i0 (.int .u64 0) Try.underlying22 hi hz0 .i64 .i64 (n : Int) (n : Int) (by omega) (by omega) (by rw [hz2]; omega) (by omega)
  rw [hz1] at h
  rw [h]
  simp only [Int.toNat_natCast]
  rw [show (Value.int IntKind.u64 0).cells = #[.int .u64 0] from rfl, zeros_cells]
theorem ar_new (w : World) (L : List Nat) : Ar (w.alloc (.cells (u64s L).toArray 23)) w.heap.size L := blk_new w 23 _

/-- A list of its own, beyond lo, that is trimmed and says s. -/
def Got (lo : Nat) (s : Pl) (e : Ending) (w' : World) : Prop :=
  ∃ g m c L, e = .returned (.slice (some ⟨g, 0, none⟩) m c) ∧ lo ≤ g ∧ Ar w' g L ∧ m ≤ L.length ∧ c = L.length ∧ Pl.Sm L ∧ Pl.Is (L.take m) s

theorem up_two (a b : List Nat) (K : Nat) (ha : a.length ≤ K) (hb : b.length ≤ K) :
    Pl.co (Pl.up (Pl.up (List.replicate K 0) 0 a 1 a.length) 0 b 1 b.length) = Pl.co a + Pl.co b := by
  rw [Pl.co_up_all _ 0 b 1 b.length rfl (by rw [Pl.up_len, List.length_replicate]; omega), Pl.co_up_all _ 0 a 1 a.length rfl (by rw [List.length_replicate]; omega), Pl.co_zeros, Fld.to_one, Pl.one_mul, Pl.one_mul, Pl.zero_add]
  rfl

set_option maxRecDepth 100000 in
set_option maxHeartbeats 1000000 in
theorem add_poly (A B : Option Addr) (n ca m cb : Nat) (a b : List Nat) (w : World) (hn : n = a.length) (hm : m = b.length) (hnb : n ≤ 1000000) (hmb : m ≤ 1000000) (ha : ∀ x ∈ a, x < 18446744073709551616) (hb : ∀ x ∈ b, x < 18446744073709551616)
    (hA : Rd w.heap.size w A (u64s a)) (hB : Rd w.heap.size w B (u64s b)) :
    Calls Try.prog 16 #[.slice A n ca, .slice B m cb] w fun e w' => Got w.heap.size (Pl.co a + Pl.co b) e w' ∧ Below w.heap.size w w' := by
  obtain ⟨K, hK⟩ : ∃ K, K = max n m := ⟨_, rfl⟩
  have hif : (if n < m then (m : Int) else (n : Int)) = (K : Int) := by rw [hK]; split <;> omega
  have hK1 : n ≤ K := by omega
  have hK2 : m ≤ K := by omega
  have hK3 : K ≤ 1000000 := by omega
  have hmk := mk64 K (by omega)
  have HN := Lib.hid hn
  have HM := Lib.hid hm
  have HAB := Lib.hid ha
  have HBB := Lib.hid hb
  have HA := Lib.hid hA
  have HB := Lib.hid hB
  clear hn hm ha hb hA hB hK
  go_enter Try.func16, Try.ntmps16
  go_wp2_with fail
  have hb0 : Below w.heap.size w (w.alloc (.cells (u64s (List.replicate K 0)).toArray 23)) := (Below.refl _ w).alloc (Nat.le_refl _) _
  have hr0 := ar_new w (List.replicate K 0)
  have hz : (List.replicate K (0 : Nat)).length = K := List.length_replicate
  obtain ⟨w0, hw0⟩ : ∃ w0, w0 = w.alloc (.cells (u64s (List.replicate K 0)).toArray 23) := ⟨_, rfl⟩
  rw [← hw0] at hb0 hr0 ⊢
  obtain ⟨g, hge⟩ : ∃ g, g = w.heap.size := ⟨_, rfl⟩
  rw [← hge] at hr0 ⊢
  have HGE := Lib.hid hge
  have HZ := Lib.hid hz
  have HR0 := Lib.hid hr0
  clear hw0 hge hz hr0 hmk hif
  have hg0 : g < w0.heap.size := HR0.out.lt
  have hbg : g ≤ w.heap.size := by have := HGE.out; omega
  refine (addTimes_any g 0 K K (List.replicate K 0) A n ca a 1 w0 HR0.out (Pl.sm_zeros K).big (by have := HZ.out; omega) hK1 (by omega) HN.out HAB.out (by omega) ((HA.out.below hb0).rq (by have := HGE.out; omega) (by have := HGE.out; omega))).mono ?_
  rintro e w1 ⟨⟨r1, rfl⟩, hr1, hg1⟩
  have HR1 := Lib.hid hr1
  clear hr1
  go_wp2_with fail
  have hb1 : Below g w0 w1 := below_only hg1 (Nat.le_refl _) (Nat.le_of_lt hg0)
  refine (addTimes_any g 0 K K _ B m cb b 1 w1 HR1.out (Pl.up_sm (Pl.sm_zeros K) _ _ _ _).big (by rw [Pl.up_len]; have := HZ.out; omega) hK2 (by omega) HM.out HBB.out (by omega) (((HB.out.below hb0).below (hb1.mono (by have := HGE.out; omega))).rq (by have := HGE.out; omega) (by have := HGE.out; have := hg1.size; omega))).mono ?_
  rintro e w2 ⟨⟨r2, rfl⟩, hr2, hg2⟩
  have HR2 := Lib.hid hr2
  clear hr2
  go_wp2_with fail
  have hl2 : (Pl.up (Pl.up (List.replicate K 0) 0 a 1 n) 0 b 1 m).length = K := by rw [Pl.up_len, Pl.up_len, HZ.out]
  have hs2 : Pl.Sm (Pl.up (Pl.up (List.replicate K 0) 0 a 1 n) 0 b 1 m) := Pl.up_sm (Pl.up_sm (Pl.sm_zeros K) _ _ _ _) _ _ _ _
  have hco : Pl.co (Pl.up (Pl.up (List.replicate K 0) 0 a 1 n) 0 b 1 m) = Pl.co a + Pl.co b := by
    rw [HN.out, HM.out]; exact up_two a b K (by rw [← HN.out]; exact hK1) (by rw [← HM.out]; exact hK2)
  obtain ⟨L, hL⟩ : ∃ L, L = Pl.up (Pl.up (List.replicate K 0) 0 a 1 n) 0 b 1 m := ⟨_, rfl⟩
  have hr2 := HR2.out
  rw [← hL] at hl2 hs2 hco hr2
  have HL2 := Lib.hid hl2
  have HCO := Lib.hid hco
  have HR := Lib.hid hr2
  have HS := Lib.hid hs2
  clear hL hl2 hco hr2 hs2 HR1 HR2
  refine (cut_any g K K L w2 HR.out (HS.out.take K) (by rw [HL2.out]; exact Nat.le_refl _) (Nat.le_refl _) (by omega)).mono ?_
  rintro e w3 ⟨k, hk, rfl, his, rfl⟩
  have HI := Lib.hid his
  clear his
  go_wp2
  go_ret
  refine ⟨⟨g, k, K, L, rfl, by rw [HGE.out]; exact Nat.le_refl _, HR.out, by rw [HL2.out]; exact hk, HL2.out.symm, HS.out, ?_⟩, ?_⟩
  · have h := HI.out
    rw [show L.take K = L from List.take_of_length_le (by rw [HL2.out]; exact Nat.le_refl _), HCO.out] at h
    exact h
  · exact (hb0.trans ((hb1.trans ((below_only hg2 (Nat.le_refl _) (by have := hg1.size; omega)))).mono (by rw [HGE.out]; exact Nat.le_refl _)))

theorem trim_poly (A : Option Addr) (n ca : Nat) (a : List Nat) (w : World) (hn : n = a.length) (hnb : n ≤ 1000000) (ha : ∀ x ∈ a, x < 18446744073709551616) (hA : Rd w.heap.size w A (u64s a)) :
    Calls Try.prog 14 #[.slice A n ca] w fun e w' => Got w.heap.size (Pl.co a) e w' ∧ Below w.heap.size w w' := by
  have h := add_poly A none n ca 0 0 a [] w hn rfl hnb (by omega) ha (by intro x hx; cases hx) hA Rd.nil
  rw [Pl.co_nil, Pl.add_zero] at h
  have H := Lib.hid h
  clear h hn ha hA
  go_enter Try.func14, Try.ntmps14
  go_wp2_with fail
  refine H.out.mono ?_
  rintro e w' ⟨⟨g, m, c, L, rfl, h1, h2, h3, h4, h5, h6⟩, hb⟩
  have H2 := Lib.hid h2
  have H4 := Lib.hid h4
  have H5 := Lib.hid h5
  have H6 := Lib.hid h6
  clear h2 h4 h5 h6
  go_wp2
  go_ret
  exact ⟨⟨g, m, c, L, rfl, h1, H2.out, h3, H4.out, H5.out, H6.out⟩, hb⟩

end Go.Proofs.Ytalljoneflepiaa
