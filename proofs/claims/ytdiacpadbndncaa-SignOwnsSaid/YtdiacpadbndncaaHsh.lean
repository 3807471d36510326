/-
  The sums of chapter 2 as plain functions on lists of numbers and bytes: words, the state, Of, Bytes, Secret, Stream; one word that is another one modulo 2^61 - 1 makes another sum (17 has an inverse modulo 2^61 - 2). No condition.
-/
import Derived.Test.YtdiacpadbndncaaOpsA
namespace Go.Proofs.Ytdiacpadbndncaa

namespace Fld
/-! ### powers by 17, products by 37 and sums turn back -/
theorem pow17_back (a d : Nat) (hd : 17 * d = 1 + N * 13) : (a ^ 17) ^ d % P = a % P := by
  rw [← Nat.pow_mul, hd, Nat.pow_add, Nat.pow_one, Nat.pow_mul]
  by_cases h : a % P = 0
  · rw [Nat.mul_mod, h, Nat.zero_mul]
    rfl
  · rw [Nat.mul_mod, Nat.pow_mod, fermat a h, Nat.one_pow, show 1 % P = 1 from rfl, Nat.mul_one, Nat.mod_mod]
theorem pow17_inj (a b : Nat) (h : a ^ 17 % P = b ^ 17 % P) : a % P = b % P := by
  obtain ⟨d, hd⟩ : ∃ d : Nat, 17 * d = 1 + N * 13 := ⟨1763291712928118903, by decide +kernel⟩
  rw [← pow17_back a d hd, ← pow17_back b d hd, Nat.pow_mod, h, ← Nat.pow_mod]
theorem mul37_back (a c : Nat) (hc : c * 37 % P = 1) : c * (37 * a) % P = a % P := by
  rw [← Nat.mul_assoc, Nat.mul_mod, hc, Nat.one_mul, Nat.mod_mod]
theorem mul37_inj (a b : Nat) (h : 37 * a % P = 37 * b % P) : a % P = b % P := by
  obtain ⟨c, hc⟩ : ∃ c : Nat, c * 37 % P = 1 := ⟨2181202846553494278, by decide +kernel⟩
  rw [← mul37_back a c hc, ← mul37_back b c hc, Nat.mul_mod, h, ← Nat.mul_mod]
theorem sum_inj (a b c : Nat) (h : (a + c) % P = (b + c) % P) : a % P = b % P := by
  rw [P_val] at h ⊢
  omega
end Fld

namespace Hsh
open Fld (P)
/-- A word x is taken in as the k-th one. -/
def step (s k x : Nat) : Nat := Fld.pow (Fld.add (Fld.mul 37 s) (Fld.add x k)) 17
/-- Words are taken in, counted from k on. -/
def fold (s k : Nat) : List Nat → Nat
  | [] => s
  | x :: l => fold (step s k x) (k + 1) l
theorem step_lt (s k x : Nat) : step s k x < 2305843009213693951 := Fld.pow_lt _ _
theorem fold_app : ∀ (l l' : List Nat) (s k : Nat), fold s k (l ++ l') = fold (fold s k l) (k + l.length) l'
  | [], _, _, _ => rfl
  | x :: l, l', s, k => by
    rw [List.cons_append, fold, fold_app l l', List.length_cons, show k + 1 + l.length = k + (l.length + 1) by omega]
    rfl
theorem fold_snoc (l : List Nat) (x s k : Nat) : fold s k (l ++ [x]) = step (fold s k l) (k + l.length) x := by
  rw [fold_app]; rfl
theorem fold_lt (s k : Nat) (l : List Nat) (h : s < 18446744073709551616) : fold s k l < 18446744073709551616 := by
  induction l generalizing s k with
  | nil => exact h
  | cons x l ih => exact ih _ _ (Nat.lt_trans (step_lt _ _ _) (by omega))
theorem fold_pos_lt (l : List Nat) : ∀ s k x : Nat, fold s k (x :: l) < 2305843009213693951 := by
  induction l with
  | nil => exact fun s k x => step_lt s k x
  | cons y l ih =>
    intro s k x
    have e : fold s k (x :: y :: l) = fold (step s k x) (k + 1) (y :: l) := rfl
    rw [e]
    exact ih (step s k x) (k + 1) y

theorem step_val (s k x : Nat) : step s k x = (37 * s + (x + k)) ^ 17 % P := by
  have e1 : Fld.add (Fld.mul 37 s) (Fld.add x k) = (37 * s + (x + k)) % P := (Nat.add_mod (37 * s) (x + k) P).symm
  unfold step
  rw [e1]
  generalize 37 * s + (x + k) = z
  exact (Nat.pow_mod z 17 P).symm
theorem step_mod (s k x y : Nat) (h : x % P = y % P) : step s k x = step s k y := by
  have h1 : Fld.add x k = Fld.add y k := by
    show (x + k) % P = (y + k) % P
    rw [Nat.add_mod, h, ← Nat.add_mod]
  unfold step
  rw [h1]
theorem step_word (s k x y : Nat) (h : step s k x = step s k y) : x % P = y % P := by
  rw [step_val, step_val] at h
  have h1 := Fld.pow17_inj _ _ h
  exact Fld.sum_inj x y (37 * s + k) (by rw [show x + (37 * s + k) = 37 * s + (x + k) by omega, show y + (37 * s + k) = 37 * s + (y + k) by omega]; exact h1)
theorem step_state (s t k x : Nat) (h : step s k x = step t k x) : s % P = t % P := by
  rw [step_val, step_val] at h
  have h1 := Fld.sum_inj _ _ _ (Fld.pow17_inj _ _ h)
  exact Fld.mul37_inj _ _ h1
theorem fold_state (l : List Nat) : ∀ (s t k : Nat), fold s k l % P = fold t k l % P → s % P = t % P := by
  induction l with
  | nil => exact fun s t k h => h
  | cons x l ih =>
    intro s t k h
    have h1 := ih _ _ _ h
    have h2 : ∀ a : Nat, step a k x % P = step a k x := fun a => Nat.mod_eq_of_lt (step_lt a k x)
    rw [h2, h2] at h1
    exact step_state s t k x h1

/-- Rows of one length that are alike but at one place: their sums are alike just if they are alike there, modulo the prime. -/
theorem one_tells (s k : Nat) (a b : List Nat) (x y : Nat) : fold s k (a ++ x :: b) = fold s k (a ++ y :: b) ↔ x % P = y % P := by
  rw [fold_app, fold_app]
  constructor
  · intro h
    have h1 : fold (step (fold s k a) (k + a.length) x) (k + a.length + 1) b = fold (step (fold s k a) (k + a.length) y) (k + a.length + 1) b := h
    have h2 := fold_state b _ _ _ (congrArg (· % P) h1)
    have h3 : ∀ z : Nat, step (fold s k a) (k + a.length) z % P = step (fold s k a) (k + a.length) z := fun z => Nat.mod_eq_of_lt (step_lt _ _ z)
    rw [h3, h3] at h2
    exact step_word _ _ _ _ h2
  · intro h
    show fold (step _ _ x) _ b = fold (step _ _ y) _ b
    rw [step_mod _ _ _ _ h]
theorem fold_mod (l l' : List Nat) (h : l.map (· % P) = l'.map (· % P)) : ∀ s k, fold s k l = fold s k l' := by
  induction l generalizing l' with
  | nil =>
    intro s k
    cases l' with
    | nil => rfl
    | cons y l' => simp at h
  | cons x l ih =>
    intro s k
    cases l' with
    | nil => simp at h
    | cons y l' =>
      simp only [List.map_cons, List.cons.injEq] at h
      show fold (step s k x) _ l = fold (step s k y) _ l'
      rw [step_mod _ _ _ _ h.1]
      exact ih _ h.2 _ _

/-! ### words of bytes -/
/-- A few bytes as a number, the first the least. -/
def le : List UInt8 → Nat
  | [] => 0
  | b :: l => b.toNat + 256 * le l
theorem le_lt : ∀ l : List UInt8, le l < 256 ^ l.length
  | [] => by simp [le]
  | b :: l => by
    have h := le_lt l
    have hb := b.toNat_lt
    rw [List.length_cons, Nat.pow_succ]
    show b.toNat + 256 * le l < _
    omega
theorem le_snoc : ∀ (l : List UInt8) (b : UInt8), le (l ++ [b]) = le l + 256 ^ l.length * b.toNat
  | [], b => by simp [le]
  | c :: l, b => by
    rw [List.cons_append, le, le_snoc l b, le, List.length_cons, Nat.pow_succ, Nat.mul_add, Nat.mul_comm (256 ^ l.length) 256, Nat.mul_assoc]
    omega
theorem le_inj : ∀ (l l' : List UInt8), l.length = l'.length → le l = le l' → l = l'
  | [], [], _, _ => rfl
  | [], c :: l', h, _ => by simp at h
  | b :: l, [], h, _ => by simp at h
  | b :: l, c :: l', h, e => by
    have hb := b.toNat_lt
    have hc := c.toNat_lt
    have e' : b.toNat + 256 * le l = c.toNat + 256 * le l' := e
    have h1 : b.toNat = c.toNat := by omega
    have h2 : le l = le l' := by omega
    rw [le_inj l l' (by simpa using h) h2, UInt8.toNat_inj.1 h1]
def sevens (n : Nat) : Nat := (n + 6) / 7
def chunk (l : List UInt8) (k : Nat) : List UInt8 := (l.drop (7 * k)).take 7
def word (l : List UInt8) (k : Nat) : Nat := le (chunk l k)
theorem chunk_len (l : List UInt8) (k : Nat) : (chunk l k).length = min 7 (l.length - 7 * k) := by
  simp [chunk]
theorem word_lt (l : List UInt8) (k : Nat) : word l k < 72057594037927936 := by
  have h := le_lt (chunk l k)
  have h1 := chunk_len l k
  have h2 : (256 : Nat) ^ (chunk l k).length ≤ 256 ^ 7 := Nat.pow_le_pow_right (by omega) (by omega)
  have h3 : (256 : Nat) ^ 7 = 72057594037927936 := by decide
  unfold word
  omega
def upto (l : List UInt8) (k : Nat) : List Nat := (List.range k).map (word l)
def words (l : List UInt8) : List Nat := upto l (sevens l.length)
theorem upto_succ (l : List UInt8) (k : Nat) : upto l (k + 1) = upto l k ++ [word l k] := by
  simp [upto, List.range_succ]
theorem upto_len (l : List UInt8) (k : Nat) : (upto l k).length = k := by simp [upto]
theorem words_len (l : List UInt8) : (words l).length = sevens l.length := upto_len _ _
theorem words_lt (l : List UInt8) : ∀ x ∈ words l, x < 72057594037927936 := by
  intro x hx
  simp only [words, upto, List.mem_map] at hx
  obtain ⟨k, _, rfl⟩ := hx
  exact word_lt l k
theorem words_nil : words [] = [] := rfl

/-! ### the functions of the chapter -/
def all (label : List UInt8) (l : List Nat) : List Nat := words label ++ l.length :: (l ++ [0])
def of (label : List UInt8) (l : List Nat) : Nat := fold label.length 1 (all label l)
def bytes (label b : List UInt8) : Nat := of label (words b ++ [b.length])
def secret (label : List UInt8) (l : List Nat) : Nat := 1 + of label l % 2305843009213693949
theorem of_lt (label : List UInt8) (l : List Nat) : of label l < 2305843009213693951 := by
  unfold of all
  rw [← List.cons_append, ← List.append_assoc, fold_app]
  exact fold_pos_lt [] _ _ _
theorem secret_range (label : List UInt8) (l : List Nat) : 1 ≤ secret label l ∧ secret label l ≤ 2305843009213693949 := by
  have h : of label l % 2305843009213693949 < 2305843009213693949 := Nat.mod_lt _ (by omega)
  unfold secret
  omega
theorem of_mod (label : List UInt8) (l l' : List Nat) (h : l.map (· % P) = l'.map (· % P)) : of label l = of label l' := by
  have hl : l.length = l'.length := by simpa using congrArg List.length h
  refine fold_mod _ _ ?_ _ _
  simp only [all, List.map_append, List.map_cons, h, hl]
theorem of_one (label : List UInt8) (a b : List Nat) (x y : Nat) : of label (a ++ x :: b) = of label (a ++ y :: b) ↔ x % P = y % P := by
  have e : ∀ z : Nat, all label (a ++ z :: b) = (words label ++ (a ++ x :: b).length :: a) ++ z :: (b ++ [0]) := by
    intro z
    simp [all]
  unfold of
  rw [e x, e y]
  exact one_tells _ _ _ _ _ _

/-- The k-th word of a stream, and its i-th byte. -/
def streamLabel : List UInt8 := [115, 116, 114, 101, 97, 109]
def streamWord (key k : Nat) : Nat := of streamLabel [key, k]
def byteOf (x i : Nat) : Nat := x / 256 ^ i % 256
def streamByte (key i : Nat) : Nat := byteOf (streamWord key (i / 7)) (i % 7)
def streamU (key i : Nat) : UInt8 := UInt8.ofNat (streamByte key i)
def stream (key n : Nat) : List UInt8 := (List.range n).map (streamU key)
theorem byteOf_lt (x i : Nat) : byteOf x i < 256 := Nat.mod_lt _ (by omega)
theorem streamU_val (key i : Nat) : (streamU key i).toNat = streamByte key i := by
  have h : streamByte key i < 256 := byteOf_lt _ _
  unfold streamU
  rw [UInt8.toNat_ofNat']
  omega
theorem streamWord_lt (key k : Nat) : streamWord key k < 2305843009213693951 := of_lt _ _
theorem stream_len (key n : Nat) : (stream key n).length = n := by simp [stream]
theorem stream_succ (key n : Nat) : stream key (n + 1) = stream key n ++ [streamU key n] := by simp [stream, List.range_succ]
end Hsh

end Go.Proofs.Ytdiacpadbndncaa
