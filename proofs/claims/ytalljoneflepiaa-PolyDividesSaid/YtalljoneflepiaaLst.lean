/-
  POLYNOMIALS AS LISTS OF NUMBERS, WITHOUT ANY PROGRAM: what a list says, trimmed lists, a list added to another one at a place. No condition.
-/
import Derived.Test.YtalljoneflepiaaPly
namespace Go.Proofs.Ytalljoneflepiaa
open Fld (F to)

namespace Pl
/-- What a list of coefficients says. -/
def co (l : List Nat) : Pl := fun i => to (l[i]?.getD 0)
theorem co_at (l : List Nat) (i : Nat) : co l i = to (l[i]?.getD 0) := rfl
theorem co_nil : co [] = 0 := ext fun n => by rw [co_at, zero_at]; simp; rfl
theorem co_cons (x : Nat) (l : List Nat) : co (x :: l) = C (to x) + sh (co l) := ext fun n => by
  cases n with
  | zero => rw [co_at, add_at, C_0, sh_0]; simp
  | succ n => rw [co_at, add_at, C_s, sh_s, co_at]; simp
theorem Lt.co (l : List Nat) : Lt (co l) l.length := fun i hi => by
  rw [co_at, List.getElem?_eq_none hi]; rfl
theorem Po.co (l : List Nat) : Po (co l) := ⟨_, Lt.co l⟩
/-- Numbers of the field. -/
def Sm (l : List Nat) : Prop := ∀ x ∈ l, x < 2305843009213693951
/-- Trimmed. -/
def Tr (l : List Nat) : Prop := Sm l ∧ (l.length = 0 ∨ l[l.length - 1]?.getD 0 ≠ 0)
theorem Sm.nil : Sm [] := fun x h => by cases h
theorem Sm.get {l : List Nat} (h : Sm l) (i : Nat) : l[i]?.getD 0 < 2305843009213693951 := by
  rcases Nat.lt_or_ge i l.length with h1 | h1
  · rw [List.getElem?_eq_getElem h1]; exact h _ (List.getElem_mem h1)
  · rw [List.getElem?_eq_none h1]; decide
theorem Sm.take {l : List Nat} (h : Sm l) (n : Nat) : Sm (l.take n) := fun x hx => h x (List.mem_of_mem_take hx)
theorem Sm.big {l : List Nat} (h : Sm l) : ∀ x ∈ l, x < 18446744073709551616 := fun x hx => Nat.lt_trans (h x hx) (by omega)
theorem to_eq_zero {n : Nat} (h : n < 2305843009213693951) : to n = 0 ↔ n = 0 := by
  constructor
  · intro e; exact Fld.to_inj h (by omega) (e.trans Fld.to_zero.symm)
  · rintro rfl; rfl
theorem Tr.nil : Tr [] := ⟨Sm.nil, .inl rfl⟩
theorem Tr.dg {l : List Nat} (h : Tr l) {n : Nat} (hn : l.length = n + 1) : Dg (co l) n := by
  refine ⟨fun e => ?_, hn ▸ Lt.co l⟩
  rcases h.2 with h1 | h1
  · omega
  · rw [hn, Nat.add_sub_cancel] at h1
    exact h1 ((to_eq_zero (h.1.get n)).1 e)
theorem Tr.zero {l : List Nat} (h : Tr l) (e : co l = 0) : l = [] := by
  cases hl : l.length with
  | zero => exact List.eq_nil_of_length_eq_zero hl
  | succ n => exact absurd e (h.dg hl).ne
theorem Tr.len_zero {l : List Nat} (h : Tr l) : l.length = 0 ↔ co l = 0 := by
  constructor
  · intro e; rw [List.eq_nil_of_length_eq_zero e, co_nil]
  · intro e; rw [h.zero e]; rfl
theorem co_inj {a b : List Nat} (ha : Tr a) (hb : Tr b) (h : co a = co b) : a = b := by
  have hl : a.length = b.length := by
    cases h1 : a.length with
    | zero =>
      have e : co b = 0 := by rw [← h, List.eq_nil_of_length_eq_zero h1, co_nil]
      rw [hb.zero e]; rfl
    | succ n =>
      cases h2 : b.length with
      | zero =>
        have e : co a = 0 := by rw [h, List.eq_nil_of_length_eq_zero h2, co_nil]
        rw [ha.zero e] at h1; cases h1
      | succ m => rw [(ha.dg h1).uniq (h ▸ hb.dg h2)]
  refine List.ext_getElem hl fun i h1 h2 => ?_
  have := congrFun h i
  rw [co_at, co_at, List.getElem?_eq_getElem h1, List.getElem?_eq_getElem h2] at this
  exact Fld.to_inj (ha.1 _ (List.getElem_mem h1)) (hb.1 _ (List.getElem_mem h2)) this
theorem Tr.len {l : List Nat} (h : Tr l) {n : Nat} (hl : Lt (co l) n) : l.length ≤ n := by
  cases h1 : l.length with
  | zero => exact Nat.zero_le _
  | succ m => exact (h.dg h1).lt hl
theorem Tr.len_le {l : List Nat} (h : Tr l) {a : List Nat} (e : co l = co a) : l.length ≤ a.length := h.len (e ▸ Lt.co a)

/-- The list l is trimmed, and says s. -/
def Is (l : List Nat) (s : Pl) : Prop := Tr l ∧ co l = s
theorem Is.uniq {a b : List Nat} {s : Pl} (h : Is a s) (k : Is b s) : a = b := co_inj h.1 k.1 (h.2.trans k.2.symm)

theorem co_take_zero {l : List Nat} {n : Nat} (h : l[n]?.getD 0 = 0) : co (l.take n) = co (l.take (n + 1)) := ext fun i => by
  rw [co_at, co_at, List.getElem?_take, List.getElem?_take]
  by_cases h1 : i < n
  · rw [if_pos h1, if_pos (by omega)]
  · rw [if_neg h1]
    by_cases h2 : i < n + 1
    · rw [if_pos h2, show i = n by omega, h]; rfl
    · rw [if_neg h2]
theorem co_take (l : List Nat) (n i : Nat) : co (l.take n) i = if i < n then co l i else 0 := by
  rw [co_at, List.getElem?_take]
  by_cases h1 : i < n
  · rw [if_pos h1, if_pos h1]; rfl
  · rw [if_neg h1, if_neg h1]; rfl
theorem co_take_lt {l : List Nat} {n : Nat} (h : Lt (co l) n) : co (l.take n) = co l := ext fun i => by
  rw [co_take]
  by_cases h1 : i < n
  · rw [if_pos h1]
  · rw [if_neg h1, h i (by omega)]

/-! ### times powers of x -/
def shn : Nat → Pl → Pl
  | 0, s => s
  | n + 1, s => sh (shn n s)
theorem shn_at : ∀ (n : Nat) (s : Pl) (i : Nat), shn n s i = if n ≤ i then s (i - n) else 0
  | 0, s, i => by rw [if_pos (Nat.zero_le i)]; rfl
  | n + 1, s, 0 => by rw [if_neg (by omega)]; rfl
  | n + 1, s, i + 1 => by
    show shn n s i = _
    rw [shn_at n s i]
    by_cases h : n ≤ i
    · rw [if_pos h, if_pos (by omega), show i + 1 - (n + 1) = i - n by omega]
    · rw [if_neg h, if_neg (by omega)]
theorem shn_mul : ∀ (n : Nat) (s t : Pl), shn n s * t = shn n (s * t)
  | 0, _, _ => rfl
  | n + 1, s, t => by
    show sh (shn n s) * t = sh (shn n (s * t))
    rw [sh_mul, shn_mul n s t]
theorem shn_add (n : Nat) (s t : Pl) : shn n (s + t) = shn n s + shn n t := ext fun i => by
  rw [add_at, shn_at, shn_at, shn_at]
  by_cases h : n ≤ i
  · rw [if_pos h, if_pos h, if_pos h, add_at]
  · rw [if_neg h, if_neg h, if_neg h]; exact (Fin.add_zero 0).symm
theorem shn_smul (n : Nat) (c : F) (s : Pl) : shn n (C c * s) = C c * shn n s := ext fun i => by
  rw [C_mul_at, shn_at, shn_at]
  by_cases h : n ≤ i
  · rw [if_pos h, if_pos h, C_mul_at]
  · rw [if_neg h, if_neg h]; exact (Fin.mul_zero c).symm
theorem shn_sh : ∀ (n : Nat) (s : Pl), shn n (sh s) = shn (n + 1) s
  | 0, _ => rfl
  | n + 1, s => by
    show sh (shn n (sh s)) = sh (shn (n + 1) s)
    rw [shn_sh n s]
theorem shn_zero (n : Nat) : shn n 0 = 0 := ext fun i => by rw [shn_at]; split <;> rfl
theorem Po.shn {s : Pl} (h : Po s) : ∀ n, Po (shn n s)
  | 0 => h
  | n + 1 => (Po.shn h n).sh
theorem sh_zero : sh 0 = 0 := ext fun i => by cases i <;> rfl

/-! ### a list added to another one, at a place -/
def up (L : List Nat) (off : Nat) (a : List Nat) (t : Nat) : Nat → List Nat
  | 0 => L
  | k + 1 => (up L off a t k).set (off + k) (Fld.add (L[off + k]?.getD 0) (Fld.mul (a[k]?.getD 0) t))
theorem up_len (L : List Nat) (off : Nat) (a : List Nat) (t : Nat) : ∀ k, (up L off a t k).length = L.length
  | 0 => rfl
  | k + 1 => by rw [up, List.length_set, up_len L off a t k]
theorem up_get (L : List Nat) (off : Nat) (a : List Nat) (t j : Nat) : ∀ k, off + k ≤ j → (up L off a t k)[j]? = L[j]?
  | 0, _ => rfl
  | k + 1, h => by
    rw [up, List.getElem?_set_ne (by omega)]
    exact up_get L off a t j k (by omega)
theorem up_sm {L : List Nat} (h : Sm L) (off : Nat) (a : List Nat) (t : Nat) : ∀ k, Sm (up L off a t k)
  | 0 => h
  | k + 1 => fun x hx => by
    rcases List.mem_or_eq_of_mem_set hx with h1 | h1
    · exact up_sm h off a t k x h1
    · rw [h1]; exact Fld.add_lt _ _
theorem co_set {L : List Nat} {i : Nat} (h : i < L.length) (v : Nat) (n : Nat) : co (L.set i v) n = if n = i then to v else co L n := by
  rw [co_at, co_at, List.getElem?_set]
  by_cases e : n = i
  · subst e; rw [if_pos rfl, if_pos rfl, if_pos h]; rfl
  · rw [if_neg e, if_neg (Ne.symm e)]
theorem co_up (L : List Nat) (off : Nat) (a : List Nat) (t n : Nat) : ∀ k, off + k ≤ L.length → co (up L off a t k) n = co L n + if off ≤ n ∧ n < off + k then to t * co a (n - off) else 0
  | 0, _ => by
    rw [if_neg (by omega)]
    show co L n = co L n + 0
    exact (Fin.add_zero _).symm
  | k + 1, h => by
    rw [up, co_set (by rw [up_len]; omega)]
    by_cases e : n = off + k
    · subst e
      rw [if_pos rfl, if_pos (by omega), Fld.to_addF, Fld.to_mulF, show off + k - off = k by omega, co_at, co_at, Fin.mul_comm]
    · rw [if_neg e, co_up L off a t n k (by omega)]
      by_cases h1 : off ≤ n ∧ n < off + k
      · rw [if_pos h1, if_pos (by omega)]
      · rw [if_neg h1, if_neg (by omega)]
theorem co_up_all (L : List Nat) (off : Nat) (a : List Nat) (t m : Nat) (hm : m = a.length) (h : off + m ≤ L.length) : co (up L off a t m) = co L + C (to t) * shn off (co a) := ext fun n => by
  rw [co_up L off a t n m h, add_at, C_mul_at, shn_at]
  by_cases h1 : off ≤ n
  · by_cases h2 : n < off + m
    · rw [if_pos ⟨h1, h2⟩, if_pos h1]
    · rw [if_neg (by omega), if_pos h1, Lt.co a (n - off) (by omega), Fin.mul_zero]
  · rw [if_neg (by omega), if_neg h1, Fin.mul_zero]
theorem co_zeros (n : Nat) : co (List.replicate n 0) = 0 := ext fun i => by
  rw [co_at, List.getElem?_replicate]
  split <;> rfl
theorem sm_zeros (n : Nat) : Sm (List.replicate n 0) := fun x hx => by rw [List.eq_of_mem_replicate hx]; omega

/-! ### lists that are built up -/
theorem co_snoc (l : List Nat) (x : Nat) (n : Nat) : co (l ++ [x]) n = if n = l.length then to x else co l n := by
  rw [co_at, co_at]
  rcases Nat.lt_trichotomy n l.length with h | h | h
  · rw [if_neg (by omega), List.getElem?_append_left h]
  · subst h; rw [if_pos rfl]; simp
  · rw [if_neg (by omega), List.getElem?_eq_none (by simp; omega), List.getElem?_eq_none (by omega)]
theorem Sm.snoc {l : List Nat} (h : Sm l) {x : Nat} (hx : x < 2305843009213693951) : Sm (l ++ [x]) := fun y hy => by
  rcases List.mem_append.1 hy with h1 | h1
  · exact h y h1
  · rw [List.mem_singleton.1 h1]; exact hx
/-- The first so many numbers that a rule gives. -/
def tab (f : Nat → Nat) (n : Nat) : List Nat := (List.range n).map f
theorem tab_len (f : Nat → Nat) (n : Nat) : (tab f n).length = n := by simp [tab]
theorem tab_succ (f : Nat → Nat) (n : Nat) : tab f (n + 1) = tab f n ++ [f n] := by simp [tab, List.range_succ]
theorem tab_get (f : Nat → Nat) (n i : Nat) : (tab f n)[i]? = if i < n then some (f i) else none := by
  unfold tab
  rw [List.getElem?_map]
  by_cases h : i < n
  · rw [if_pos h, List.getElem?_range h]; rfl
  · rw [if_neg h, List.getElem?_eq_none (by simp; omega)]; rfl
theorem co_tab (f : Nat → Nat) (n i : Nat) : co (tab f n) i = if i < n then to (f i) else 0 := by
  rw [co_at, tab_get]
  by_cases h : i < n
  · rw [if_pos h, if_pos h]; rfl
  · rw [if_neg h, if_neg h]; rfl
theorem sm_tab {f : Nat → Nat} {n : Nat} (h : ∀ i, f i < 2305843009213693951) : Sm (tab f n) := fun x hx => by
  obtain ⟨i, _, rfl⟩ := List.mem_map.1 hx
  exact h i
end Pl
end Go.Proofs.Ytalljoneflepiaa
