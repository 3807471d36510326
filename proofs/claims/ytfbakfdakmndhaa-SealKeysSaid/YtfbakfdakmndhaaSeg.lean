/-
  The reference's Open of chapter 7; the document's example holds; the statements' calls told of slices that can be read. Keys of 64 bits, up to 2^20 bytes.
-/
import Derived.Test.YtfbakfdakmndhaaSef
import Derived.Lib.SlBytesConst
namespace Go.Proofs.Ytfbakfdakmndhaa
open Go.RowKit

set_option maxRecDepth 100000 in
theorem ropen_short (a b : List UInt8) (A A' : Option Addr) (n c n' c' k : Nat) (w : World) (hA' : n' = b.length) (hs : n' < 8) :
    Calls Try.prog 17 #[.int .u64 k, .slice A n c, .slice A' n' c'] w fun e w' => Opn e w' (Sl.opn k a b) ∧ Below w.heap.size w w' := by
  rw [Sl.opn_short k a b (by omega)]
  have h1 : (n' : Int) < 8 := by omega
  clear hA'
  go_enter Try.func17, Try.ntmps17
  go_wp2
  go_ret2
  exact ⟨⟨none, 0, 0, rfl, Bt.empty w⟩, Below.refl _ _⟩

set_option maxRecDepth 100000 in
set_option maxHeartbeats 2000000 in
theorem ropen_long (a b : List UInt8) (A A' : Option Addr) (n c n' c' k m : Nat) (w : World) (hA : Bt w A n c a) (hA' : Bt w A' n' c' b) (hb : n ≤ 1000000) (hb' : n' ≤ 1000000) (hm : n' = m + 8)
    (q : Bool) (hq : decide (Sl.tag k a (b.take m) = b.drop m) = q) :
    Calls Try.prog 17 #[.int .u64 k, .slice A n c, .slice A' n' c'] w fun e w' => Opn e w' (if q then (Sl.mask k (b.take m), 0) else ([], 21)) ∧ Below w.heap.size w w' := by
  obtain ⟨G, off, rfl⟩ := hA'.spot (by omega)
  have hcc := hA'.cap
  have hs1 := slice_from G off n' c' m (by omega) (by omega)
  have hs2 := slice_head 23 (by kernel_rfl) (fun W => by kernel_rfl) (some ⟨G, off, none⟩) n' c' m (by omega)
  have hsub : (n' : Int) - 8 = (m : Int) := by omega
  have hn8 : n' - m = 8 := by omega
  rw [hn8] at hs1
  have hB1 : Bt w (some ⟨G, off, none⟩) m c' (b.take m) := hA'.take (by omega)
  have hB2 : Bt w (some ⟨G, off + m, none⟩) 8 (c' - m) (b.drop m) := by have := hA'.drop (k := m) (by omega); rw [hn8] at this; exact this
  have HT := Lib.hid (fun W (h : Below w.heap.size w W) => rtag_any a (b.take m) A (some ⟨G, off, none⟩) n c m c' k W (hA.below h) (hB1.below h) hb (by omega))
  obtain ⟨u, hu⟩ : ∃ u, u = Sl.tag k a (b.take m) := ⟨_, rfl⟩
  rw [← hu] at HT hq
  have HE := Lib.hid (fun W g cp (h : Below w.heap.size w W) (h2 : Bt W (some ⟨g, 0, none⟩) 8 cp u) => same_any u (b.drop m) (some ⟨g, 0, none⟩) (some ⟨G, off + m, none⟩) 8 cp 8 (c' - m) W h2.len hB2.len (by omega) (by omega) h2.rd (hB2.below h).rd)
  rw [hq] at HE
  have HM := Lib.hid (fun W (h : Below w.heap.size w W) => rxor_any (b.take m) (some ⟨G, off, none⟩) m c' k W (hB1.below h) (by omega))
  obtain ⟨v, hv⟩ : ∃ v, v = Sl.mask k (b.take m) := ⟨_, rfl⟩
  rw [← hv] at HM ⊢
  have hw0 : Below w.heap.size w w := Below.refl _ _
  have hw1 : Below w.heap.size w w.drew := below_to_drew hw0
  have hge : ¬ ((n' : Int) < 8) := by omega
  have hge' : ¬ (n' < 8) := by omega
  have q0 : (0 : Int) ≤ (m : Int) := by omega
  have q1 : (m : Int) ≤ (n' : Int) := by omega
  have q2 : (m : Int) ≤ (c' : Int) := by omega
  clear hq hu hv hB1 hB2 hA hA' hm hn8 hcc
  go_enter Try.func17, Try.ntmps17
  go_wp2_with fail
  go_region_held3 (fun _ : World => True)
    (exact trivial)
    (first
      | (go_at_call 24; have z := HT.out w.drew hw1; ((with_reducible refine z.mono ?_); clear z; rintro e w1 ⟨⟨g1, cp1, rfl, hown1⟩, hb1'⟩; have hb1 : Below w.heap.size w w1 := below_of_drew hb1'))
      | (go_at_call 13; have z := HE.out w1 g1 cp1 hb1 (Bt.of_own hown1); ((with_reducible refine z.mono ?_); clear z; rintro e w2 ⟨rfl, hb2⟩)))
  have hk2 : Below w.heap.size w w2 := kept_trans hb1 hb2
  clear hb1 hb1' hb2 hown1
  cases q
  · go_wp2
    go_ret2
    exact ⟨⟨none, 0, 0, rfl, Bt.empty w2⟩, hk2⟩
  · go_wp2_with fail
    refine (HM.out _ hk2).mono ?_
    rintro e w3 ⟨⟨A3, c3, rfl, hown3⟩, hb3⟩
    have hk3 : Below w.heap.size w w3 := kept_trans hk2 hb3
    have HB := Lib.hid (Bt.of_own hown3)
    clear hb3 hown3 hk2
    go_wp2
    go_ret2
    exact ⟨⟨_, m, _, rfl, HB.out⟩, hk3⟩

theorem ropen_any (a b : List UInt8) (A A' : Option Addr) (n c n' c' k : Nat) (w : World) (hA : Bt w A n c a) (hA' : Bt w A' n' c' b) (hb : n ≤ 1000000) (hb' : n' ≤ 1000000) :
    Calls Try.prog 17 #[.int .u64 k, .slice A n c, .slice A' n' c'] w fun e w' => Opn e w' (Sl.opn k a b) ∧ Below w.heap.size w w' := by
  rcases Nat.lt_or_ge n' 8 with hs | hl
  · exact ropen_short a b A A' n c n' c' k w hA'.len hs
  · obtain ⟨m, hm⟩ : ∃ m, n' = m + 8 := ⟨n' - 8, by omega⟩
    refine (ropen_long a b A A' n c n' c' k m w hA hA' hb hb' hm _ rfl).mono ?_
    rintro e w' ⟨h1, h2⟩
    refine ⟨?_, h2⟩
    have hl := hA'.len
    by_cases h : b.drop m = Sl.tag k a (b.take m)
    · rw [opn_ok k a b m (by omega) h]
      rw [decide_eq_true h.symm] at h1
      exact h1
    · rw [opn_bad k a b m (by omega) h]
      rw [decide_eq_false (fun q => h q.symm)] at h1
      exact h1

/-! ### the calls, told of slices -/
theorem few_v {w : World} {A : Option Addr} {n c : Nat} {l : List UInt8} (h : Bt w A n c l) (most : Nat) (hmost : most ≤ 1000) :
    Calls Try.prog 11 #[.slice A n c, .int .i64 (most : Int)] w fun e w' => (∃ A' m c', e = .returned (.slice A' m c') ∧ Bt w' A' m c' (l.take most) ∧ m ≤ most) ∧ Below w.heap.size w w' :=
  (few_any l A n c most w h.len h.cap hmost h.rd h.nil).mono fun _ _ ⟨A', c', h1, h2, h3⟩ => ⟨⟨A', _, c', h1, Bt.of_own h2, by omega⟩, h3⟩
theorem seal_v {w : World} {A A' : Option Addr} {n c n' c' : Nat} {a t : List UInt8} (k : Nat) (hA : Bt w A n c a) (hA' : Bt w A' n' c' t) (hk : k < 18446744073709551616) (hb : n ≤ 1000) (hb' : n' ≤ 1000) :
    Calls Try.prog 12 #[.int .u64 k, .slice A n c, .slice A' n' c'] w fun e w' => (∃ g m c', e = .returned (.slice (some ⟨g, 0, none⟩) m c') ∧ Bt w' (some ⟨g, 0, none⟩) m c' (Sl.put k a t) ∧ m = n' + 8) ∧ Below w.heap.size w w' :=
  (seal_any a t A A' n c n' c' k w hk hA hA' (by omega) (by omega)).mono fun _ _ ⟨⟨g, c', h1, h2⟩, h3⟩ => ⟨⟨g, _, c', h1, Bt.of_own h2, rfl⟩, h3⟩
theorem rseal_v {w : World} {A A' : Option Addr} {n c n' c' : Nat} {a t : List UInt8} (k : Nat) (hA : Bt w A n c a) (hA' : Bt w A' n' c' t) (hb : n ≤ 1000) (hb' : n' ≤ 1000) :
    Calls Try.prog 14 #[.int .u64 k, .slice A n c, .slice A' n' c'] w fun e w' => (∃ g m c', e = .returned (.slice (some ⟨g, 0, none⟩) m c') ∧ Bt w' (some ⟨g, 0, none⟩) m c' (Sl.put k a t) ∧ m = n' + 8) ∧ Below w.heap.size w w' :=
  (rseal_any a t A A' n c n' c' k w hA hA' (by omega) (by omega)).mono fun _ _ ⟨⟨g, c', h1, h2⟩, h3⟩ => ⟨⟨g, _, c', h1, Bt.of_own h2, rfl⟩, h3⟩
theorem open_v {w : World} {A A' : Option Addr} {n c n' c' : Nat} {a b r : List UInt8} {q : Nat} (k : Nat) (hA : Bt w A n c a) (hA' : Bt w A' n' c' b) (hr : Sl.opn k a b = (r, q)) (hk : k < 18446744073709551616) (hb : n ≤ 1000) (hb' : n' ≤ 1010) :
    Calls Try.prog 16 #[.int .u64 k, .slice A n c, .slice A' n' c'] w fun e w' => (∃ A2 m c2, e = .returned (.tuple #[.slice A2 m c2, .int .i64 (q : Int)]) ∧ Bt w' A2 m c2 r) ∧ Below w.heap.size w w' := by
  have h := open_any a b A A' n c n' c' k w hk hA hA' (by omega) (by omega)
  rw [hr] at h
  exact h
theorem ropen_v {w : World} {A A' : Option Addr} {n c n' c' : Nat} {a b r : List UInt8} {q : Nat} (k : Nat) (hA : Bt w A n c a) (hA' : Bt w A' n' c' b) (hr : Sl.opn k a b = (r, q)) (hb : n ≤ 1000) (hb' : n' ≤ 1010) :
    Calls Try.prog 17 #[.int .u64 k, .slice A n c, .slice A' n' c'] w fun e w' => (∃ A2 m c2, e = .returned (.tuple #[.slice A2 m c2, .int .i64 (q : Int)]) ∧ Bt w' A2 m c2 r) ∧ Below w.heap.size w w' := by
  have h := ropen_any a b A A' n c n' c' k w hA hA' (by omega) (by omega)
  rw [hr] at h
  exact h
theorem same_v {w : World} {A A' : Option Addr} {n c n' c' : Nat} {a b : List UInt8} (hA : Bt w A n c a) (hA' : Bt w A' n' c' b) (q : Bool) (hq : decide (a = b) = q) (hb : n ≤ 1000) (hb' : n' ≤ 1010) :
    Calls Try.prog 13 #[.slice A n c, .slice A' n' c'] w fun e w' => e = .returned (.bool q) ∧ Below w.heap.size w w' := by
  rw [← hq]
  exact same_any a b A A' n c n' c' w hA.len hA'.len (by omega) (by omega) hA.rd hA'.rd

/-! ### the document's example -/
theorem conv_lit (w : World) (C : Array Value) (n c : Nat) : (convert 23 23 (.slice (some ⟨w.heap.size, 0, none⟩) n c)).run Try.prog (w.alloc (.cells C 5)) = .ok (.slice (some ⟨w.heap.size, 0, none⟩) n c) (w.alloc (.cells C 5 (C.size, C.size + 1))) :=
  Lib.run_convert_bytes_const (P := Try.prog) w 23 5 C n c Try.underlying23 Try.underlying5
theorem conv_lit2 (w : World) (o : Obj) (C : Array Value) (n c : Nat) : (convert 23 23 (.slice (some ⟨w.heap.size + 1, 0, none⟩) n c)).run Try.prog ((w.alloc o).alloc (.cells C 5)) = .ok (.slice (some ⟨w.heap.size + 1, 0, none⟩) n c) ((w.alloc o).alloc (.cells C 5 (C.size, C.size + 1))) := by
  have h := conv_lit (w.alloc o) C n c
  rw [World.size_alloc] at h
  exact h
theorem Bt.lit (w : World) (x : UInt8) (y : Int) (m : Nat × Nat) (hy : y = (x.toNat : Int)) : Bt (w.alloc (.cells #[.int .u8 y] 5 m)) (some ⟨w.heap.size, 0, none⟩) 1 1 [x] := by
  refine ⟨rfl, Nat.le_refl _, fun e => (by cases e), fun _ => ⟨_, _, rfl, by simp, fun i u hu => ?_⟩⟩
  subst hy
  rw [Nat.zero_add, cell_block (heap_alloc_new w _)]
  simpa [u8s] using hu

set_option maxRecDepth 100000 in
set_option maxHeartbeats 2000000 in
theorem lives7_any (w : World) : Calls Try.prog 18 #[] w fun e w' => e = .returned (.bool true) ∧ Below w.heap.size w w' := by
  have hcs2 := conv_lit2
  have hcs := conv_lit
  have k0 : Below w.heap.size w w := Below.refl _ _
  go_enter Try.func18, Try.ntmps18
  go_wp2_with fail
  have ha : Bt ((w.alloc (.cells #[.int .u8 97] 5 (1, 2))).alloc (.cells #[.int .u8 98] 5 (1, 2))) (some ⟨w.heap.size, 0, none⟩) 1 1 [97] := (Bt.lit w 97 97 (1, 2) rfl).new _
  have hb : Bt ((w.alloc (.cells #[.int .u8 97] 5 (1, 2))).alloc (.cells #[.int .u8 98] 5 (1, 2))) (some ⟨w.heap.size + 1, 0, none⟩) 1 1 [98] := by have := Bt.lit (w.alloc (.cells #[.int .u8 97] 5 (1, 2))) 98 98 (1, 2) rfl; rw [World.size_alloc] at this; exact this
  refine (seal_v 5 ha hb (by omega) (by omega) (by omega)).mono ?_
  rintro e w1 ⟨⟨g, m, c, rfl, h, hm⟩, hb1⟩
  have k1 := kept_trans k0 (Sl.below_new (Sl.below_new hb1))
  have S1 := Lib.hid h
  clear hb1 k0 h
  obtain rfl : m = 9 := hm
  clear ha hb
  go_wp2_with fail
  have hl : Bt (w1.alloc (.cells #[.int .u8 97] 5 (1, 2))) (some ⟨w1.heap.size, 0, none⟩) 1 1 [97] := Bt.lit w1 97 97 (1, 2) rfl
  refine (open_v 5 hl (S1.out.new _) (Sl.opn_seal 5 [97] [98]) (by omega) (by omega) (by omega)).mono ?_
  rintro e w2 ⟨⟨A1, m1, c1, rfl, h⟩, hb2⟩
  have k2 := kept_trans k1 (Sl.below_new hb2)
  have S2 := Lib.hid (S1.out.below (Sl.below_new hb2))
  have T2 := Lib.hid h
  clear hb2 k1 S1 h
  clear hl
  go_wp2_with fail
  have hl : Bt (w2.alloc (.cells #[.int .u8 99] 5 (1, 2))) (some ⟨w2.heap.size, 0, none⟩) 1 1 [99] := Bt.lit w2 99 99 (1, 2) rfl
  refine (open_v 5 hl (S2.out.new _) (Sl.opn_along 5 [97] [98] 0 99 (by decide) (by decide)) (by omega) (by omega) (by omega)).mono ?_
  rintro e w3 ⟨⟨A2, m2, c2, rfl, h⟩, hb3⟩
  have k3 := kept_trans k2 (Sl.below_new hb3)
  have S3 := Lib.hid (S2.out.below (Sl.below_new hb3))
  have T3 := Lib.hid (T2.out.below (Sl.below_new hb3))
  have U3 := Lib.hid h
  clear hb3 k2 S2 T2 h
  clear hl
  go_wp2_with fail
  have hl : Bt (w3.alloc (.cells #[.int .u8 97] 5 (1, 2))) (some ⟨w3.heap.size, 0, none⟩) 1 1 [97] := Bt.lit w3 97 97 (1, 2) rfl
  refine (open_v 6 hl (S3.out.new _) (Sl.opn_key 5 6 [97] [98] (by rw [Fld.P_val]; omega)) (by omega) (by omega) (by omega)).mono ?_
  rintro e w4 ⟨⟨A3, m3, c3, rfl, h⟩, hb4⟩
  have k4 := kept_trans k3 (Sl.below_new hb4)
  have S4 := Lib.hid (S3.out.below (Sl.below_new hb4))
  have T4 := Lib.hid (T3.out.below (Sl.below_new hb4))
  have U4 := Lib.hid (U3.out.below (Sl.below_new hb4))
  have V4 := Lib.hid h
  clear hb4 k3 S3 T3 U3 h
  clear hl
  have hm1 := T4.out.len
  have hcv := conv_rd [98] A1 m1 c1 _ w4 T4.out.len T4.out.rd
  obtain rfl : m1 = 1 := hm1
  clear S4 T4 U4 V4
  go_wp2
  go_ret
  exact ⟨rfl, k4⟩

end Go.Proofs.Ytfbakfdakmndhaa
