/-
  Package seal: Seal and Open tell what the document says; what was there is left as it was. Keys of 64 bits, along of up to 2^30 bytes, texts of up to 2^20.
-/
import Derived.Test.YtfbakfdakmndhaaSed
namespace Go.Proofs.Ytfbakfdakmndhaa
open Go.RowKit

/-- A slice of bytes that can be read. -/
structure Bt (w : World) (A : Option Addr) (n c : Nat) (l : List UInt8) : Prop where
  len : n = l.length
  cap : n ≤ c
  nil : A = none → c = 0
  rd : Rd w.heap.size w A (u8s l)
theorem Bt.below {w w' : World} {A : Option Addr} {n c : Nat} {l : List UInt8} (h : Bt w A n c l) (hb : Below w.heap.size w w') : Bt w' A n c l :=
  ⟨h.len, h.cap, h.nil, (h.rd.below hb).more hb.size⟩
theorem Bt.new {w : World} {A : Option Addr} {n c : Nat} {l : List UInt8} (h : Bt w A n c l) (o : Obj) : Bt (w.alloc o) A n c l := h.below ((Below.refl _ w).alloc (Nat.le_refl _) _)
theorem Bt.take {w : World} {A : Option Addr} {n c : Nat} {l : List UInt8} (h : Bt w A n c l) {k : Nat} (hk : k ≤ n) : Bt w A k c (l.take k) :=
  ⟨by rw [List.length_take, ← h.len]; omega, Nat.le_trans hk h.cap, h.nil, by rw [← u8s_take]; exact h.rd.take k⟩
theorem Rd.drop {B : Nat} {w : World} {g off : Nat} {vs : List Value} (h : Rd B w (some ⟨g, off, none⟩) vs) (k : Nat) : Rd B w (some ⟨g, off + k, none⟩) (vs.drop k) := fun hp => by
  rw [List.length_drop] at hp
  obtain ⟨b, off', e, hlt, hc⟩ := h (by omega)
  injection e with e
  injection e with e1 e2
  subst e1 e2
  refine ⟨_, _, rfl, hlt, fun i u hu => ?_⟩
  rw [List.getElem?_drop] at hu
  rw [Nat.add_assoc]
  exact hc (k + i) u hu
theorem Bt.spot {w : World} {A : Option Addr} {n c : Nat} {l : List UInt8} (h : Bt w A n c l) (hn : 0 < n) : ∃ g off, A = some ⟨g, off, none⟩ := by
  obtain ⟨b, off, e, _⟩ := h.rd (by rw [u8s_len, ← h.len]; exact hn)
  exact ⟨b, off, e⟩
theorem Bt.drop {w : World} {g off n c : Nat} {l : List UInt8} (h : Bt w (some ⟨g, off, none⟩) n c l) {k : Nat} (hk : k ≤ n) : Bt w (some ⟨g, off + k, none⟩) (n - k) (c - k) (l.drop k) :=
  ⟨by rw [List.length_drop, ← h.len], by have := h.cap; omega, fun e => (by cases e), by
    have := h.rd.drop k
    unfold u8s at this ⊢
    rw [List.map_drop]
    exact this⟩
theorem Bt.of_blk {w : World} {g n : Nat} {l : List UInt8} (h : Blk w g 5 (u8s l).toArray) (hn : n = l.length) : Bt w (some ⟨g, 0, none⟩) n n l :=
  ⟨hn, Nat.le_refl _, fun e => (by cases e), Rd.of_blk h⟩
theorem own_cap {w : World} {B e s n m c : Nat} {A : Option Addr} {xs : List Value} (h : w.ownsRow B e s (.slice A n c) m xs) : m ≤ c ∧ (A = none → c = 0) := by
  rcases h.2 with ⟨h1, rfl⟩ | ⟨g, cap, cur, h1, _, _, h2, _⟩
  · injection h1 with e1 e2 e3
    subst e1 e3
    exact ⟨Nat.le_refl _, fun _ => rfl⟩
  · injection h1 with e1 e2 e3
    subst e3 e1
    exact ⟨h2, fun e => by cases e⟩
theorem Bt.of_own {w : World} {B n c : Nat} {A : Option Addr} {l : List UInt8} (h : w.ownsRow B 5 1 (.slice A n c) n (u8s l)) : Bt w A n c l :=
  ⟨by have := h.1; rw [u8s_len] at this; omega, (own_cap h).1, (own_cap h).2, Rd.of_own h⟩
theorem own_base {w : World} {B B' e s n : Nat} {v : Value} {xs : List Value} (h : w.ownsRow B e s v n xs) (hB : B' ≤ B) : w.ownsRow B' e s v n xs := by
  refine ⟨h.1, ?_⟩
  rcases h.2 with h | ⟨g, cp, cur, e1, e2, e3⟩
  · exact .inl h
  · exact .inr ⟨g, cp, cur, e1, Nat.le_trans hB e2, e3⟩
theorem slice_from (g off n c k : Nat) (hk : k ≤ n) (hc : k < c) (W : World) :
    (Instr.slice 23 (.slice (some ⟨g, off, none⟩) n c) (some (.int .i64 (k : Int))) none none).run Try.prog W = .ok (.slice (some ⟨g, off + k, none⟩) (n - k) (c - k)) W := by
  have hz : (sizeOf (Try.prog.elem 23)).run Try.prog W = .ok 1 W := by kernel_rfl
  have h := run_slice_l (P := Try.prog) W 23 (some ⟨g, off, none⟩) n c (by kernel_rfl) .i64 (k : Int) (by omega) (by omega)
  rw [h, hz]
  simp only [Result.andThen, sliced, Int.toNat_natCast]
  rw [if_neg (by omega)]
  simp
  exact Addr.add_lit _ _ _

set_option maxRecDepth 100000 in
set_option maxHeartbeats 2000000 in
theorem seal_any (a t : List UInt8) (A A' : Option Addr) (n c n' c' k : Nat) (w : World) (hk : k < 18446744073709551616) (hA : Bt w A n c a) (hA' : Bt w A' n' c' t) (hb : n ≤ 1073741824) (hb' : n' ≤ 1048576) :
    Calls Try.prog 12 #[.int .u64 k, .slice A n c, .slice A' n' c'] w fun e w' => (∃ g cap, e = .returned (.slice (some ⟨g, 0, none⟩) (n' + 8) cap) ∧
      w'.ownsRow w.heap.size 5 1 (.slice (some ⟨g, 0, none⟩) (n' + 8) cap) (n' + 8) (u8s (Sl.put k a t))) ∧ Below w.heap.size w w' := by
  have hml : n' = (Sl.mask k t).length := by rw [Sl.mask_len]; exact hA'.len
  have hpt : Sl.put k a t = Sl.mask k t ++ Sl.tag k a (Sl.mask k t) := rfl
  rw [hpt]
  have HP := Lib.hid (pad_any k n' w hk hb')
  have HM := Lib.hid (fun W p (h : Bt W A' n' c' t) (hp : Pad W p k n') => masked_any t A' n' c' p k W h.len hb' h.rd hp)
  have HT := Lib.hid (fun W g (h : Bt W A n c a) (h2 : Blk W g 5 (u8s (Sl.mask k t)).toArray) => tag_any a (Sl.mask k t) A (some ⟨g, 0, none⟩) n c n' n' k W hk h.len h.cap (by omega) hml (Nat.le_refl _) (by omega) h.rd (Rd.of_blk h2))
  have htl := Sl.tag_len k a (Sl.mask k t)
  obtain ⟨m, hm⟩ : ∃ m, m = Sl.mask k t := ⟨_, rfl⟩
  rw [← hm] at HM HT hml htl ⊢
  obtain ⟨q, hq⟩ : ∃ q, q = Sl.tag k a m := ⟨_, rfl⟩
  rw [← hq] at HT htl ⊢
  have HA := Lib.hid hA
  have HA' := Lib.hid hA'
  have HML := Lib.hid hml
  have HTL := Lib.hid htl
  clear hm hq hA hA' hml htl hpt
  go_enter Try.func12, Try.ntmps12
  go_wp2_with fail
  refine (HP.out).mono ?_
  rintro e w1 ⟨⟨p, rfl, hp⟩, hb1⟩
  have hA1 := HA'.out.below hb1
  go_wp2_with fail
  refine (HM.out _ p hA1 hp).mono ?_
  rintro e w2 ⟨rfl, hg2, hb2⟩
  obtain ⟨g, hg⟩ : ∃ g, g = w1.heap.size := ⟨_, rfl⟩
  rw [← hg] at hg2 ⊢
  have hk2 := kept_trans hb1 hb2
  clear hb1 hb2 hA1 hg hp
  go_wp2_with fail
  refine (HT.out _ g (HA.out.below hk2) hg2).mono ?_
  rintro e w3 ⟨⟨g3, rfl, _, hg3⟩, hb3⟩
  have hk3 := kept_trans hk2 hb3
  have hm3 := hg2.below hb3 hg2.lt
  clear hb3 hk2 hg2
  have hA4 : Bt (w3.alloc (.cells #[.slice (some ⟨g, 0, none⟩) n' n', .slice (some ⟨g3, 0, none⟩) 8 8] 23)) (some ⟨g, 0, none⟩) n' n' m := (Bt.of_blk hm3 HML.out).new _
  have hA5 : Bt (w3.alloc (.cells #[.slice (some ⟨g, 0, none⟩) n' n', .slice (some ⟨g3, 0, none⟩) 8 8] 23)) (some ⟨g3, 0, none⟩) 8 8 q := (Bt.of_blk hg3 HTL.out.symm).new _
  have HC := Lib.hid (concat_any m q ⟨g, 0, none⟩ ⟨g3, 0, none⟩ w3.heap.size n' n' 8 8 _ hA4.len hA5.len (by omega) (by omega) (by omega) (blk_new w3 23 _) hA4.rd hA5.rd)
  have HK3 := Lib.hid hk3
  clear hA4 hA5 hm3 hg3 hk3
  go_wp2_with fail
  refine (HC.out).mono ?_
  rintro e w4 ⟨g4, cap, rfl, hown, hb4'⟩
  have hb4 := Sl.below_new hb4'
  have hown4 := own_base hown (B' := w.heap.size) (by have := HK3.out.size; simp; omega)
  have HO := Lib.hid hown4
  clear hown hown4 hb4'
  go_wp2
  go_ret
  exact ⟨⟨g4, cap, rfl, HO.out⟩, kept_trans HK3.out hb4⟩

theorem opn_ok (k : Nat) (a b : List UInt8) (m : Nat) (hm : m + 8 = b.length) (h : b.drop m = Sl.tag k a (b.take m)) : Sl.opn k a b = (Sl.mask k (b.take m), 0) := by
  obtain rfl : m = b.length - 8 := by omega
  unfold Sl.opn Sl.tail Sl.body
  rw [if_neg (by omega), if_pos h]
theorem opn_bad (k : Nat) (a b : List UInt8) (m : Nat) (hm : m + 8 = b.length) (h : b.drop m ≠ Sl.tag k a (b.take m)) : Sl.opn k a b = ([], 21) := by
  obtain rfl : m = b.length - 8 := by omega
  unfold Sl.opn Sl.tail Sl.body
  rw [if_neg (by omega), if_neg h]

/-- What Open tells. -/
def Opn (e : Ending) (w' : World) (r : List UInt8 × Nat) : Prop := ∃ A n c, e = .returned (.tuple #[.slice A n c, .int .i64 (r.2 : Nat)]) ∧ Bt w' A n c r.1
theorem Bt.empty (w : World) : Bt w none 0 0 [] := ⟨rfl, Nat.le_refl _, fun _ => rfl, Rd.nil⟩

set_option maxRecDepth 100000 in
theorem open_short (a b : List UInt8) (A A' : Option Addr) (n c n' c' k : Nat) (w : World) (hA' : n' = b.length) (hs : n' < 8) :
    Calls Try.prog 16 #[.int .u64 k, .slice A n c, .slice A' n' c'] w fun e w' => Opn e w' (Sl.opn k a b) ∧ Below w.heap.size w w' := by
  rw [Sl.opn_short k a b (by omega)]
  have h1 : (n' : Int) - 8 < 0 := by omega
  clear hA'
  go_enter Try.func16, Try.ntmps16
  go_wp2
  go_ret2
  exact ⟨⟨none, 0, 0, rfl, Bt.empty w⟩, Below.refl _ _⟩

set_option maxRecDepth 100000 in
set_option maxHeartbeats 2000000 in
theorem open_long (a b : List UInt8) (A A' : Option Addr) (n c n' c' k m : Nat) (w : World) (hk : k < 18446744073709551616) (hA : Bt w A n c a) (hA' : Bt w A' n' c' b) (hb : n ≤ 1073741824) (hb' : n' ≤ 1048576) (hm : n' = m + 8)
    (q : Bool) (hq : decide (b.drop m = Sl.tag k a (b.take m)) = q) :
    Calls Try.prog 16 #[.int .u64 k, .slice A n c, .slice A' n' c'] w fun e w' => Opn e w' (if q then (Sl.mask k (b.take m), 0) else ([], 21)) ∧ Below w.heap.size w w' := by
  obtain ⟨G, off, rfl⟩ := hA'.spot (by omega)
  have hcc := hA'.cap
  have hs1 := slice_from G off n' c' m (by omega) (by omega)
  have hs2 := slice_head 23 (by kernel_rfl) (fun W => by kernel_rfl) (some ⟨G, off, none⟩) n' c' m (by omega)
  have hsub : (n' : Int) - 8 = (m : Int) := by omega
  have hn8 : n' - m = 8 := by omega
  rw [hn8] at hs1
  have hB1 : Bt w (some ⟨G, off, none⟩) m c' (b.take m) := hA'.take (by omega)
  have hB2 : Bt w (some ⟨G, off + m, none⟩) 8 (c' - m) (b.drop m) := by have := hA'.drop (k := m) (by omega); rw [hn8] at this; exact this
  have HT := Lib.hid (fun W (h : Below w.heap.size w W) => tag_any a (b.take m) A (some ⟨G, off, none⟩) n c m c' k W hk hA.len hA.cap (by omega) hB1.len hB1.cap (by omega) (hA.below h).rd (hB1.below h).rd)
  have htl := Sl.tag_len k a (b.take m)
  have hml : m = (Sl.mask k (b.take m)).length := by rw [Sl.mask_len]; exact hB1.len
  obtain ⟨u, hu⟩ : ∃ u, u = Sl.tag k a (b.take m) := ⟨_, rfl⟩
  rw [← hu] at HT htl hq
  have HE := Lib.hid (fun W g (h : Below w.heap.size w W) (h2 : Blk W g 5 (u8s u).toArray) => equal_any (b.drop m) u (some ⟨G, off + m, none⟩) (some ⟨g, 0, none⟩) 8 (c' - m) 8 8 W hB2.len htl.symm (hB2.below h).rd (Rd.of_blk h2))
  rw [hq] at HE
  have HP := Lib.hid (fun W => pad_any k m W hk (by omega))
  have HM := Lib.hid (fun W p (h : Below w.heap.size w W) (hp : Pad W p k m) => masked_any (b.take m) (some ⟨G, off, none⟩) m c' p k W hB1.len (by omega) (hB1.below h).rd hp)
  obtain ⟨v, hv⟩ : ∃ v, v = Sl.mask k (b.take m) := ⟨_, rfl⟩
  rw [← hv] at HM hml ⊢
  have HML := Lib.hid hml
  have hw0 : Below w.heap.size w w := Below.refl _ _
  have hw1 : Below w.heap.size w w.drew := below_to_drew hw0
  have hneg : ¬ ((m : Int) < 0) := by omega
  have q0 : (0 : Int) ≤ (m : Int) := by omega
  have q1 : (m : Int) ≤ (n' : Int) := by omega
  have q2 : (m : Int) ≤ (c' : Int) := by omega
  clear hq hu hv htl hml hB1 hB2 hA hA' hm hn8 hcc
  go_enter Try.func16, Try.ntmps16
  go_wp2_with fail
  go_region_held3 (fun _ : World => True)
    (exact trivial)
    (first
      | (go_at_call 22; have z := HT.out w.drew hw1; ((with_reducible refine z.mono ?_); clear z; rintro e w1 ⟨⟨g1, rfl, _, hg1⟩, hb1'⟩; have hb1 : Below w.heap.size w w1 := below_of_drew hb1'))
      | (go_at_call 25; have z := HE.out w1 g1 hb1 hg1; ((with_reducible refine z.mono ?_); clear z; rintro e w2 ⟨rfl, hb2⟩)))
  have hk2 : Below w.heap.size w w2 := kept_trans hb1 hb2
  have hk2d : Below w.heap.size w w2.drew := below_to_drew hk2
  clear hb1 hb1' hb2 hg1
  cases q
  · go_wp2
    go_ret2
    exact ⟨⟨none, 0, 0, rfl, Bt.empty w2⟩, hk2⟩
  · go_wp2_with fail
    go_region_held3 (fun _ : World => True)
      (exact trivial)
      (first
        | (go_at_call 20; have z := HP.out w2.drew; ((with_reducible refine z.mono ?_); clear z; rintro e w3 ⟨⟨p, rfl, hp⟩, hb3⟩; have hk3 : Below w.heap.size w w3 := kept_trans hk2 (below_of_drew hb3)))
        | (go_at_call 19; have z := HM.out w3 p hk3 hp; ((with_reducible refine z.mono ?_); clear z; rintro e w4 ⟨rfl, hg4, hb4⟩)))
    have hk4 : Below w.heap.size w w4 := kept_trans hk3 hb4
    have HB := Lib.hid (Bt.of_blk hg4 HML.out)
    clear hb4 hg4 hk3 hk2 hk2d hb3 hp
    go_wp2
    go_ret2
    exact ⟨⟨_, m, m, rfl, HB.out⟩, hk4⟩

theorem open_any (a b : List UInt8) (A A' : Option Addr) (n c n' c' k : Nat) (w : World) (hk : k < 18446744073709551616) (hA : Bt w A n c a) (hA' : Bt w A' n' c' b) (hb : n ≤ 1073741824) (hb' : n' ≤ 1048576) :
    Calls Try.prog 16 #[.int .u64 k, .slice A n c, .slice A' n' c'] w fun e w' => Opn e w' (Sl.opn k a b) ∧ Below w.heap.size w w' := by
  rcases Nat.lt_or_ge n' 8 with hs | hl
  · exact open_short a b A A' n c n' c' k w hA'.len hs
  · obtain ⟨m, hm⟩ : ∃ m, n' = m + 8 := ⟨n' - 8, by omega⟩
    refine (open_long a b A A' n c n' c' k m w hk hA hA' hb hb' hm _ rfl).mono ?_
    rintro e w' ⟨h1, h2⟩
    refine ⟨?_, h2⟩
    have hl := hA'.len
    by_cases h : b.drop m = Sl.tag k a (b.take m)
    · rw [opn_ok k a b m (by omega) h]
      rw [decide_eq_true h] at h1
      exact h1
    · rw [opn_bad k a b m (by omega) h]
      rw [decide_eq_false h] at h1
      exact h1

end Go.Proofs.Ytfbakfdakmndhaa
