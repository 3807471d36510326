/-
  Package sketch's Of: how many a set has, and its values at the first points, in memory of their own; none, of no points. What was there is left as it was. For up to 1000 numbers and 1000 points.
-/
import Derived.Test.YtcbcmnbfflaicaaSkl
import Derived.Deep.RegionHeld3
namespace Go.Proofs.Ytcbcmnbfflaicaa
open Go.RowKit
open Sk (pt)

def set2 (w : World) (R : Nat) (a b : Value) : World := (w.setCell ⟨R, 0, none⟩ a).setCell ⟨R, 1, none⟩ b
theorem blk_set2 {w : World} {R t : Nat} {p q : Value} (h : Blk w R t #[p, q]) (a b : Value) : Blk (set2 w R a b) R t #[a, b] := by
  have h1 := (h.set_ 0 a).set_ 1 b
  exact h1
theorem grown_set2 (w : World) (R : Nat) (a b : Value) : w.grownBy (set2 w R a b) (some R) := only_set (only_set (only_refl _ _) 0 a) 1 b
theorem below_set2 {w : World} {R n : Nat} (a b : Value) (h : n ≤ R) : Below n w (set2 w R a b) := ((Below.refl n w).setCell (p := ⟨R, 0, none⟩) h a).setCell (p := ⟨R, 1, none⟩) h b

/-- A set's first values. -/
noncomputable def vls (l : List Nat) (n : Nat) : List Nat := Pl.tab (fun k => sv l (pt k)) n
theorem vls_len (l : List Nat) (n : Nat) : (vls l n).length = n := Pl.tab_len _ _
theorem vls_sm (l : List Nat) (n : Nat) : Pl.Sm (vls l n) := Pl.sm_tab fun _ => sv_lt _ _

/-- What Of tells. -/
def OfT (l : List Nat) (m n : Nat) (w : World) (e : Ending) (w' : World) : Prop :=
  (n = 0 ∧ e = .returned (skv m none 0 0) ∨ 0 < n ∧ ∃ g, e = .returned (skv m (some ⟨g, 0, none⟩) n n) ∧ w.heap.size ≤ g ∧ Ar w' g (vls l n)) ∧ Below w.heap.size w w'

set_option maxRecDepth 100000 in
set_option maxHeartbeats 2000000 in
theorem of_none (l : List Nat) (A : Option Addr) (m c : Nat) (w : World) : Calls Try.prog 13 #[.slice A m c, .int .i64 0] w (OfT l m 0 w) := by
  have hb3 : Below w.heap.size w ((w.alloc (.cells #[.int .i64 (m : Int), .slice none 0 0] 29)).alloc (.cells #[.int .i64 (m : Int), .slice none 0 0] 29)) := ((Below.refl _ w).alloc (Nat.le_refl _) _).alloc (by simp) _
  have h1 := blk_alloc (blk_new w 29 #[.int .i64 (m : Int), .slice none 0 0]) (.cells #[.int .i64 (m : Int), .slice none 0 0] 29)
  have H3 := Lib.hid h1
  have HB3 := Lib.hid hb3
  clear h1 hb3
  go_enter Try.func13, Try.ntmps13
  go_wp2
  have r0 := H3.out.cell 0
  have r1 := H3.out.cell 1
  refine bodyPost_ret (v := skv m none 0 0) (by simp [results, Try.results13, go_sem, r0, r1, skv]) rfl ⟨.inl ⟨rfl, rfl⟩, HB3.out⟩

set_option maxRecDepth 100000 in
set_option maxHeartbeats 4000000 in
theorem of_some (l : List Nat) (A : Option Addr) (m c n : Nat) (w : World) (hp : Pt w A m c l) (hm : m ≤ 1000) (hl : ∀ y ∈ l, y < 18446744073709551616) (hn : n ≤ 1000) (hn0 : 0 < n) : Calls Try.prog 13 #[.slice A m c, .int .i64 (n : Int)] w (OfT l m n w) := by
  obtain ⟨B, hB⟩ : ∃ B, B = w.heap.size := ⟨_, rfl⟩
  obtain ⟨w3, hw3⟩ : ∃ w3, w3 = ((w.alloc (.cells #[.int .i64 0, .slice none 0 0] 29)).alloc (.cells #[.int .i64 (m : Int), .slice (some ⟨w.heap.size + 1 + 1, 0, none⟩) n n] 29)).alloc (.cells (u64s (List.replicate n 0)).toArray 22) := ⟨_, rfl⟩
  have hb0 : Below w.heap.size w w3 := by
    rw [hw3]
    exact (((Below.refl _ w).alloc (Nat.le_refl _) _).alloc (by simp) _).alloc (by simp; omega) _
  have h1 := blk_alloc (blk_alloc (blk_new w 29 #[.int .i64 0, .slice none 0 0]) (.cells #[.int .i64 (m : Int), .slice (some ⟨w.heap.size + 1 + 1, 0, none⟩) n n] 29)) (.cells (u64s (List.replicate n 0)).toArray 22)
  have h2 := blk_alloc (blk_new (w.alloc (.cells #[.int .i64 0, .slice none 0 0] 29)) 29 #[.int .i64 (m : Int), .slice (some ⟨w.heap.size + 1 + 1, 0, none⟩) n n]) (.cells (u64s (List.replicate n 0)).toArray 22)
  rw [World.size_alloc] at h2
  have h3 := ar_new ((w.alloc (.cells #[.int .i64 0, .slice none 0 0] 29)).alloc (.cells #[.int .i64 (m : Int), .slice (some ⟨w.heap.size + 1 + 1, 0, none⟩) n n] 29)) (List.replicate n 0)
  rw [World.size_alloc, World.size_alloc] at h3
  rw [← hw3] at h1 h2 h3
  rw [← hB] at h1 h2 h3
  have hmk := mk64 n (by omega)
  have q1 : ¬ ((n : Int) < 1) := by omega
  have q2 : ¬ ((268435455 : Int) < (n : Int)) := by omega
  have HP := Lib.hid hp
  have HL := Lib.hid hl
  have HB0 := Lib.hid hb0
  have HW3 := Lib.hid hw3
  have H4 := Lib.hid h2
  have H5 := Lib.hid h1
  have H6 := Lib.hid h3
  have HBE := Lib.hid hB
  have HN0 := Lib.hid hn0
  clear hp hl hb0 hw3 h1 h2 h3 hB hn0
  go_enter Try.func13, Try.ntmps13
  go_wp2
  rw [← HW3.out]
  rw [← HBE.out]
  clear hmk q1 q2
  go_loopw [23] (fun i wr => ∃ k : Nat, k ≤ n ∧ i = .int .i64 (k : Int) ∧ Ar wr (B + 1 + 1) (Pl.tab (fun k => sv l (pt k)) k ++ List.replicate (n - k) 0) ∧ Below (B + 1 + 1) w3 wr) (fun i _ => n - (intOf i).toNat)
  case atStart => exact ⟨0, Nat.zero_le _, rfl, H6.out, Below.refl _ _⟩
  case round =>
    obtain ⟨k, hk, rfl, har, hbr⟩ := hrel
    have hB2 : B + 1 + 1 < w3.heap.size := H6.out.lt
    have h4 := H4.out.below hbr (by omega)
    have h5 := H5.out.below hbr (by omega)
    have hbw : Below w.heap.size w wr := HB0.out.trans (hbr.mono (by have := HBE.out; omega))
    by_cases hlt : k < n
    · have hx : (pt k) < 18446744073709551616 := by unfold pt; omega
      obtain ⟨x, hxe⟩ : ∃ x, x = pt k := ⟨_, rfl⟩
      have hpt := point_any k (by omega) wr.drew
      rw [← hxe] at hpt hx
      have hpr : Pt wr.drew A m c l := HP.out.below (below_to_drew hbw)
      have hva := value_any l A m c x wr.drew hpr (by omega) HL.out hx
      obtain ⟨v, hv⟩ : ∃ v, v = sv l x := ⟨_, rfl⟩
      rw [← hv] at hva
      have hst := har.set_ k v
      have hll : (Pl.tab (fun k => sv l (pt k)) k ++ List.replicate (n - k) 0).set k v = Pl.tab (fun k => sv l (pt k)) (k + 1) ++ List.replicate (n - (k + 1)) 0 := by
        have e : (Pl.tab (fun k => sv l (pt k)) k).length = k := Pl.tab_len _ _
        rw [List.set_append_right _ _ (by omega), e, Nat.sub_self, show n - k = (n - (k + 1)) + 1 by omega, List.replicate_succ, List.set_cons_zero, Pl.tab_succ, hv, hxe, List.append_assoc]; rfl
      rw [hll] at hst
      have hb2 := hbr.setCell (p := ⟨B + 1 + 1, k, none⟩) (Nat.le_refl _) (.int .u64 (v : Int))
      have hcell := har.cell (i := k) (by rw [List.length_append, Pl.tab_len, List.length_replicate]; omega)
      have hfz := har.frozen k
      have g1 : wr.cell? ⟨B + 1, 1, none⟩ = some (.slice (some ⟨B + 1 + 1, 0, none⟩) n n) := h4.cell 1
      have g2 : wr.drew.cell? ⟨B + 1, 1, none⟩ = some (.slice (some ⟨B + 1 + 1, 0, none⟩) n n) := g1
      have g3 : (wr.drew.setCell ⟨B + 1 + 1, k, none⟩ (.int .u64 (v : Int))).cell? ⟨B + 1, 1, none⟩ = some (.slice (some ⟨B + 1 + 1, 0, none⟩) n n) := (World.cell?_of_block (Below.heap_setCell _ _ _ _ (by show B + 1 ≠ B + 1 + 1; omega))).trans g1
      have g4 : (wr.setCell ⟨B + 1 + 1, k, none⟩ (.int .u64 (v : Int))).drew.cell? ⟨B + 1, 1, none⟩ = some (.slice (some ⟨B + 1 + 1, 0, none⟩) n n) := g3
      have q0 : (0 : Int) ≤ (k : Int) := by omega
      have q1 : (k : Int) < (n : Int) := by omega
      have HPT := Lib.hid hpt
      have HVA := Lib.hid hva
      have HST := Lib.hid hst
      have HB2 := Lib.hid hb2
      clear hpt hva hpr hst hll hb2 hxe hv har hbr hbw h4 h5
      go_wp2
      go_region_held3 (fun w' : World => w'.cell? ⟨B + 1, 1, none⟩ = some (.slice (some ⟨B + 1 + 1, 0, none⟩) n n))
        ((first | with_reducible exact g2 | with_reducible exact g1 | with_reducible exact g3 | with_reducible exact g4))
        (first
          | (with_reducible refine (HPT.out).mono ?_; rintro e w4 ⟨rfl, rfl⟩)
          | (with_reducible refine (HVA.out).mono ?_; rintro e w4 ⟨rfl, rfl⟩))
      all_goals go_wp2
      all_goals go_roundw
      case rel => exact ⟨k + 1, hlt, by go_num, HST.out.drew, below_to_drew HB2.out⟩
      case measure => simp [intOf]; omega
    · have e : k = n := by omega
      subst e
      rw [Nat.sub_self, List.replicate_zero, List.append_nil] at har
      have g1 : wr.cell? ⟨B + 1, 1, none⟩ = some (.slice (some ⟨B + 1 + 1, 0, none⟩) k k) := h4.cell 1
      have g0 : wr.cell? ⟨B + 1, 0, none⟩ = some (.int .i64 (m : Int)) := h4.cell 0
      have f0 := h5.frozen 0
      have f1 := h5.frozen 1
      have d0 : wr.cell? ⟨B, 0, none⟩ = some (.int .i64 0) := h5.cell 0
      have d1 : wr.cell? ⟨B, 1, none⟩ = some (.slice none 0 0) := h5.cell 1
      have h7 := blk_set2 h5 (.int .i64 (m : Int)) (.slice (some ⟨B + 1 + 1, 0, none⟩) k k)
      have har7 : Ar (set2 wr B (.int .i64 (m : Int)) (.slice (some ⟨B + 1 + 1, 0, none⟩) k k)) (B + 1 + 1) (vls l k) := ((grown_set2 wr B _ _).block (B + 1 + 1) har.lt (fun e => by injection e with e; omega)).trans har
      have hb7 : Below w.heap.size w (set2 wr B (.int .i64 (m : Int)) (.slice (some ⟨B + 1 + 1, 0, none⟩) k k)) := hbw.trans (below_set2 _ _ (by have := HBE.out; omega))
      have H7 := Lib.hid h7
      have HAR7 := Lib.hid har7
      have HB7 := Lib.hid hb7
      clear h4 h5 h7 har7 hb7 har hbr hbw
      go_wp2
      have r0 := H7.out.cell 0
      have r1 := H7.out.cell 1
      unfold set2 at r0 r1
      refine bodyPost_ret (v := skv m (some ⟨B + 1 + 1, 0, none⟩) k k) (by simp [results, Try.results13, go_sem, r0, r1, skv]) rfl ⟨.inr ⟨HN0.out, B + 1 + 1, rfl, by have := HBE.out; omega, HAR7.out⟩, HB7.out⟩

theorem of_set (l : List Nat) (A : Option Addr) (m c n : Nat) (w : World) (hp : Pt w A m c l) (hm : m ≤ 1000) (hl : ∀ y ∈ l, y < 18446744073709551616) (hn : n ≤ 1000) : Calls Try.prog 13 #[.slice A m c, .int .i64 (n : Int)] w (OfT l m n w) := by
  rcases Nat.eq_zero_or_pos n with h | h
  · subst h
    exact of_none l A m c w
  · exact of_some l A m c n w hp hm hl hn h
end Go.Proofs.Ytcbcmnbfflaicaa
