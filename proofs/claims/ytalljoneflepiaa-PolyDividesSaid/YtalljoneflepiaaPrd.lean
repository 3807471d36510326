/-
  Package poly's Mul and monic, in memory of their own; what was there was left as it was. For lists of numbers of 64 bits, up to a million of them.
-/
import Derived.Test.YtalljoneflepiaaPrc
namespace Go.Proofs.Ytalljoneflepiaa
open Go.RowKit

/-- A slice that holds l. -/
def Pt (w : World) (A : Option Addr) (n c : Nat) (l : List Nat) : Prop := n = l.length ∧ Rd w.heap.size w A (u64s l) ∧ n ≤ c ∧ (A = none → c = 0)
theorem Pt.below {w w' : World} {A : Option Addr} {n c : Nat} {l : List Nat} (h : Pt w A n c l) (hb : Below w.heap.size w w') : Pt w' A n c l := ⟨h.1, (h.2.1.below hb).more hb.size, h.2.2⟩
/-- A slice from block lo on that is trimmed and says s. -/
def Poly (lo : Nat) (s : Pl) (e : Ending) (w' : World) : Prop := ∃ A n c l, e = .returned (.slice A n c) ∧ Pt w' A n c l ∧ Pl.Is l s ∧ ∀ bl off, A = some ⟨bl, off, none⟩ → lo ≤ bl
theorem Got.poly {lo : Nat} {s : Pl} {e : Ending} {w' : World} (h : Got lo s e w') : Poly lo s e w' := by
  obtain ⟨g, m, c, L, rfl, h1, h2, h3, h4, _, h6⟩ := h
  exact ⟨_, m, c, L.take m, rfl, ⟨by rw [List.length_take]; omega, (h2.rd h2.lt).take m, by omega, fun e => by cases e⟩, h6, fun bl off e => by injection e with e; injection e with e1; omega⟩
theorem Poly.mono {lo lo' : Nat} {s : Pl} {e : Ending} {w' : World} (h : Poly lo s e w') (hl : lo' ≤ lo) : Poly lo' s e w' := by
  obtain ⟨A, n, c, l, h1, h2, h3, h4⟩ := h
  exact ⟨A, n, c, l, h1, h2, h3, fun bl off e => Nat.le_trans hl (h4 bl off e)⟩

set_option maxRecDepth 100000 in
set_option maxHeartbeats 1000000 in
theorem mul_poly (A A2 : Option Addr) (la ca lb cb : Nat) (a b : List Nat) (w : World) (hn : la = a.length) (hm : lb = b.length) (hla : la ≤ 1000000) (hlb : lb ≤ 1000000)
    (ha : ∀ y ∈ a, y < 18446744073709551616) (hb : ∀ y ∈ b, y < 18446744073709551616) (hA : Rd w.heap.size w A (u64s a)) (hA2 : Rd w.heap.size w A2 (u64s b)) :
    Calls Try.prog 18 #[.slice A la ca, .slice A2 lb cb] w fun e w' => Got w.heap.size (Pl.co a * Pl.co b) e w' ∧ Below w.heap.size w w' := by
  have hp : Calls Try.prog 47 #[.slice A la ca, .slice A2 lb cb] w fun e w' => (∃ K, K ≤ 2000000 ∧ Made w.heap.size K (Pl.co a * Pl.co b) e w') ∧ Below w.heap.size w w' := by
    rcases Nat.eq_zero_or_pos (la + lb) with h0 | h0
    · obtain rfl : la = 0 := by omega
      obtain rfl : lb = 0 := by omega
      have e1 : a = [] := List.eq_nil_of_length_eq_zero hn.symm
      have e2 : b = [] := List.eq_nil_of_length_eq_zero hm.symm
      rw [e1, e2, Pl.co_nil, Pl.zero_mul]
      exact (product_nil A A2 ca cb w).mono fun e w' ⟨h1, h2⟩ => ⟨⟨0, by omega, h1⟩, h2⟩
    · exact (product_any A A2 la ca lb cb (la + lb - 1) a b w hn hm h0 (by omega) hla hlb ha hb hA hA2).mono fun e w' ⟨h1, h2⟩ => ⟨⟨_, by omega, h1⟩, h2⟩
  have HP := Lib.hid hp
  clear hp hn hm ha hb hA hA2
  go_enter Try.func18, Try.ntmps18
  go_wp2_with fail
  refine HP.out.mono ?_
  rintro e w1 ⟨⟨K, hK, g, L, rfl, hg1, hg2, hg3, hg4, hg5⟩, hb1⟩
  have H2 := Lib.hid hg2
  have H3 := Lib.hid hg3
  have H4 := Lib.hid hg4
  have H5 := Lib.hid hg5
  clear hg2 hg3 hg4 hg5
  go_wp2_with fail
  refine (cut_any g K K L w1 H2.out (H4.out.take K) (by rw [H3.out]; exact Nat.le_refl _) (Nat.le_refl _) (by omega)).mono ?_
  rintro e w3 ⟨k, hk, rfl, his, rfl⟩
  have HI := Lib.hid his
  clear his
  go_wp2
  go_ret
  refine ⟨⟨g, k, K, L, rfl, hg1, H2.out, by rw [H3.out]; exact hk, H3.out.symm, H4.out, ?_⟩, hb1⟩
  have h := HI.out
  rw [show L.take K = L from List.take_of_length_le (by rw [H3.out]; exact Nat.le_refl _), H5.out] at h
  exact h

/-- The last number of a list. -/
def lead (l : List Nat) : Nat := l[l.length - 1]?.getD 0
theorem Pl.Dg.smul {s : Pl} {d : Nat} {c : Fld.F} (hc : c ≠ 0) (h : Pl.Dg s d) : Pl.Dg (Pl.C c * s) d := ⟨by rw [Pl.C_mul_at]; exact Fld.mul_ne hc h.1, h.2.smul c⟩
theorem Pl.Dg.tr {L : List Nat} {n : Nat} (hs : Pl.Sm L) (hl : L.length = n + 1) (h : Pl.Dg (Pl.co L) n) : Pl.Tr L := ⟨hs, .inr fun e => h.1 (by rw [Pl.co_at]; rw [hl, Nat.add_sub_cancel] at e; rw [e]; rfl)⟩
theorem lead_ne {l : List Nat} (h : Pl.Tr l) (hl : 0 < l.length) : Fld.to (lead l) ≠ 0 := fun e => by
  rcases h.2 with h1 | h1
  · omega
  · exact h1 ((Pl.to_eq_zero (h.1.get _)).1 e)

set_option maxRecDepth 100000 in
set_option maxHeartbeats 1000000 in
theorem monic_any (A : Option Addr) (n c : Nat) (a : List Nat) (w : World) (hp : Pt w A n c a) (ht : Pl.Tr a) (hn : n ≤ 1000000) :
    Calls Try.prog 54 #[.slice A n c] w fun e w' => Poly w.heap.size (Pl.C (Fld.iv (Fld.to (lead a))) * Pl.co a) e w' ∧ Below w.heap.size w w' := by
  have HP := Lib.hid hp
  have HT := Lib.hid ht
  clear hp ht
  cases n with
  | zero =>
    have ha : a = [] := List.eq_nil_of_length_eq_zero HP.out.1.symm
    go_enter Try.func54, Try.ntmps54
    go_wp2
    go_ret
    refine ⟨⟨none, 0, 0, [], rfl, ⟨rfl, Rd.nil, Nat.le_refl _, fun _ => rfl⟩, ⟨Pl.Tr.nil, ?_⟩, fun bl off e => by cases e⟩, Below.refl _ _⟩
    rw [ha, Pl.co_nil, Pl.mul_zero]
  | succ j =>
    have hlen := HP.out.1
    obtain ⟨b, off, rfl, hlt, hcl⟩ := HP.out.2.1 (by rw [u64s_len, ← hlen]; omega)
    have c1 := hcl j _ (u64s_at (by rw [← hlen]; omega))
    have hx := HT.out.1.big
    have hxb := get_big hx j
    have hld : lead a = a[j]?.getD 0 := by unfold lead; rw [← hlen, Nat.add_sub_cancel]
    obtain ⟨x, hxe⟩ : ∃ x, x = a[j]?.getD 0 := ⟨_, rfl⟩
    rw [← hxe] at c1 hxb hld
    have hinv := inv_any x w hxb
    have hil := Fld.pow_lt x 2305843009213693949
    have hito : Fld.to (Fld.pow x 2305843009213693949) = Fld.iv (Fld.to x) := Fld.to_powI _
    obtain ⟨y, hy⟩ : ∃ y, y = Fld.pow x 2305843009213693949 := ⟨_, rfl⟩
    rw [← hy] at hinv hil hito
    have HI := Lib.hid hinv
    have HL := Lib.hid hlen
    have HX := Lib.hid hx
    have HLD := Lib.hid hld
    have HTO := Lib.hid hito
    clear hcl hxe hy hinv hlen hx hld hito
    go_enter Try.func54, Try.ntmps54
    go_wp2_with fail
    refine HI.out.mono ?_
    rintro e w1 ⟨rfl, hb1⟩
    go_wp2_with fail
    have hb2 : Below w.heap.size w (w1.alloc (.cells #[.int .u64 (y : Int)] 23)) := hb1.alloc hb1.size _
    refine (product_any (some ⟨b, off, none⟩) (some ⟨w1.heap.size, 0, none⟩) (j + 1) c 1 1 (j + 1) a [y] _ HL.out rfl (by omega) (by omega) (by omega) (by omega) HX.out (by intro z hz; simp at hz; omega) ((HP.out.2.1.below hb2).more hb2.size) (rd_one w1 y)).mono ?_
    rintro e w2 ⟨⟨g, L, rfl, hg1, hg2, hg3, hg4, hg5⟩, hb3⟩
    have H2 := Lib.hid hg2
    have H3 := Lib.hid hg3
    have H4 := Lib.hid hg4
    have H5 := Lib.hid hg5
    clear hg2 hg3 hg4 hg5
    go_wp2
    go_ret
    have e1 : Pl.co [y] = Pl.C (Fld.iv (Fld.to (lead a))) := by rw [Pl.co_cons, Pl.co_nil, Pl.sh_zero, Pl.add_zero, HTO.out, HLD.out]
    have hco : Pl.co L = Pl.C (Fld.iv (Fld.to (lead a))) * Pl.co a := by rw [H5.out, e1, Pl.mul_comm]
    have hdg : Pl.Dg (Pl.co L) j := by
      rw [hco]
      exact Pl.Dg.smul (Fld.iv_ne (lead_ne HT.out (by rw [← HL.out]; omega))) (HT.out.dg HL.out.symm)
    refine ⟨⟨_, j + 1, j + 1, L, rfl, ⟨H3.out.symm, H2.out.rd H2.out.lt, Nat.le_refl _, fun e => by cases e⟩, ⟨Pl.Dg.tr H4.out H3.out hdg, hco⟩, fun bl off e => by injection e with e; injection e with e1; have := hb2.size; omega⟩, ?_⟩
    exact hb2.trans (hb3.mono hb2.size)
end Go.Proofs.Ytalljoneflepiaa
