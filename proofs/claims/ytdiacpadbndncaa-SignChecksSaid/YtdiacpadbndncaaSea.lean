/-
  Package seal's bytes, told without any program: the pad, the tag, what is sealed and what is opened, and what follows of them. No condition.
-/
import Derived.Test.YtdiacpadbndncaaTells
namespace Go.Proofs.Ytdiacpadbndncaa
namespace Sl
/-- Bytes, xor others. -/
def xor (l p : List UInt8) : List UInt8 := List.zipWith (· ^^^ ·) l p
def sealLabel : List UInt8 := [115, 101, 97, 108]
def macLabel : List UInt8 := [109, 97, 99]
def alongLabel : List UInt8 := [97, 108, 111, 110, 103]
def textLabel : List UInt8 := [116, 101, 120, 116]
def key (k : Nat) : Nat := Hsh.secret sealLabel [k]
def pad (k n : Nat) : List UInt8 := Hsh.stream (key k) n
def mask (k : Nat) (l : List UInt8) : List UInt8 := xor l (pad k l.length)
def alongs (a : List UInt8) : Nat := Hsh.bytes alongLabel a
def texts (b : List UInt8) : Nat := Hsh.bytes textLabel b
def sum (k : Nat) (a b : List UInt8) : Nat := Hsh.of macLabel [k, alongs a, texts b]
def tagU (x i : Nat) : UInt8 := UInt8.ofNat (Hsh.byteOf x i)
def tagOf (x : Nat) : List UInt8 := (List.range 8).map (tagU x)
def tag (k : Nat) (a b : List UInt8) : List UInt8 := tagOf (sum k a b)
def put (k : Nat) (a t : List UInt8) : List UInt8 := mask k t ++ tag k a (mask k t)
/-- The bytes ahead of the tag. -/
def body (b : List UInt8) : List UInt8 := b.take (b.length - 8)
def tail (b : List UInt8) : List UInt8 := b.drop (b.length - 8)
/-- What Open tells: the bytes, and how it is wrong. -/
def opn (k : Nat) (a b : List UInt8) : List UInt8 × Nat :=
  if b.length < 8 then ([], 9) else if tail b = tag k a (body b) then (mask k (body b), 0) else ([], 21)

theorem xor_len (l p : List UInt8) (h : l.length = p.length) : (xor l p).length = l.length := by
  unfold xor
  rw [List.length_zipWith]
  omega
theorem pad_len (k n : Nat) : (pad k n).length = n := Hsh.stream_len _ _
theorem mask_len (k : Nat) (l : List UInt8) : (mask k l).length = l.length := xor_len _ _ (pad_len _ _).symm
theorem xor_get (l p : List UInt8) (i : Nat) (h1 : i < l.length) (h2 : i < p.length) : (xor l p)[i]? = some (l[i] ^^^ p[i]) := by
  unfold xor
  rw [List.getElem?_zipWith, List.getElem?_eq_getElem h1, List.getElem?_eq_getElem h2]
theorem mask_get (k : Nat) (l : List UInt8) (i : Nat) (h : i < l.length) : (mask k l)[i]? = some (l[i] ^^^ Hsh.streamU (key k) i) := by
  have h2 : i < (pad k l.length).length := by rw [pad_len]; exact h
  unfold mask
  rw [xor_get l _ i h h2]
  congr 2
  show (Hsh.stream (key k) l.length)[i]'h2 = _
  simp [Hsh.stream]
theorem mask_snoc (k : Nat) (l : List UInt8) (x : UInt8) : mask k (l ++ [x]) = mask k l ++ [x ^^^ Hsh.streamU (key k) l.length] := by
  unfold mask pad
  rw [List.length_append, List.length_singleton, Hsh.stream_succ]
  unfold xor
  rw [List.zipWith_append (by rw [Hsh.stream_len])]
  rfl
theorem mask_take (k : Nat) (l : List UInt8) (j : Nat) : mask k (l.take j) = (mask k l).take j := by
  apply List.ext_getElem?
  intro i
  rcases Nat.lt_or_ge i (l.take j).length with h | h
  · have h' := h
    rw [List.length_take] at h'
    rw [mask_get k _ i h, List.getElem?_take, if_pos (by omega), mask_get k l i (by omega), List.getElem_take]
  · rw [List.getElem?_eq_none (by rw [mask_len]; exact h), List.getElem?_eq_none (by rw [List.length_take, mask_len]; rw [List.length_take] at h; omega)]
theorem mask_mask (k : Nat) (l : List UInt8) : mask k (mask k l) = l := by
  apply List.ext_getElem?
  intro i
  rcases Nat.lt_or_ge i l.length with h | h
  · have h2 : i < (mask k l).length := by rw [mask_len]; exact h
    rw [mask_get k _ i h2, List.getElem?_eq_getElem h]
    have h3 := mask_get k l i h
    rw [List.getElem?_eq_getElem h2] at h3
    injection h3 with h3
    rw [h3, UInt8.xor_assoc, UInt8.xor_self, UInt8.xor_zero]
  · rw [List.getElem?_eq_none (by rw [mask_len, mask_len]; exact h), List.getElem?_eq_none h]
theorem key_mod (k k' : Nat) (h : k % Fld.P = k' % Fld.P) : key k = key k' := by
  unfold key Hsh.secret
  rw [Hsh.of_mod sealLabel [k] [k'] (by simp [h])]
theorem mask_mod (k k' : Nat) (l : List UInt8) (h : k % Fld.P = k' % Fld.P) : mask k l = mask k' l := by
  unfold mask pad
  rw [key_mod k k' h]

/-! ### tags -/
theorem alongs_lt (a : List UInt8) : alongs a < 2305843009213693951 := Hsh.of_lt _ _
theorem texts_lt (a : List UInt8) : texts a < 2305843009213693951 := Hsh.of_lt _ _
theorem sum_lt (k : Nat) (a b : List UInt8) : sum k a b < 2305843009213693951 := Hsh.of_lt _ _
theorem tagOf_len (x : Nat) : (tagOf x).length = 8 := by simp [tagOf]
theorem tag_len (k : Nat) (a b : List UInt8) : (tag k a b).length = 8 := tagOf_len _
theorem tagU_val (x i : Nat) : (tagU x i).toNat = x / 256 ^ i % 256 := by
  unfold tagU Hsh.byteOf
  rw [UInt8.toNat_ofNat']
  have := Nat.mod_lt (x / 256 ^ i) (show 0 < 256 by omega)
  omega
theorem tagOf_inj (x y : Nat) (hx : x < 18446744073709551616) (hy : y < 18446744073709551616) (h : tagOf x = tagOf y) : x = y := by
  have g : ∀ i, i < 8 → x / 256 ^ i % 256 = y / 256 ^ i % 256 := by
    intro i hi
    have e : (tagOf x)[i]? = (tagOf y)[i]? := by rw [h]
    unfold tagOf at e
    rw [List.getElem?_map, List.getElem?_map, List.getElem?_range hi] at e
    injection e with e
    rw [← tagU_val, ← tagU_val, e]
  have g0 := g 0 (by omega)
  have g1 := g 1 (by omega)
  have g2 := g 2 (by omega)
  have g3 := g 3 (by omega)
  have g4 := g 4 (by omega)
  have g5 := g 5 (by omega)
  have g6 := g 6 (by omega)
  have g7 := g 7 (by omega)
  simp only [Nat.reducePow, Nat.div_one] at g0 g1 g2 g3 g4 g5 g6 g7
  omega
theorem tag_mod (k k' : Nat) (a b : List UInt8) (h : k % Fld.P = k' % Fld.P) : tag k a b = tag k' a b := by
  unfold tag sum
  rw [Hsh.of_mod macLabel [k, alongs a, texts b] [k', alongs a, texts b] (by simp [h])]
theorem sum_key (k k' : Nat) (a b : List UInt8) : sum k a b = sum k' a b ↔ k % Fld.P = k' % Fld.P := Hsh.of_one macLabel [] [alongs a, texts b] k k'
theorem sum_along (k : Nat) (a a' b : List UInt8) : sum k a b = sum k a' b ↔ alongs a = alongs a' := by
  have h := Hsh.of_one macLabel [k] [texts b] (alongs a) (alongs a')
  rw [Fld.P_val, Nat.mod_eq_of_lt (alongs_lt a), Nat.mod_eq_of_lt (alongs_lt a')] at h
  exact h
theorem sum_text (k : Nat) (a b b' : List UInt8) : sum k a b = sum k a b' ↔ texts b = texts b' := by
  have h := Hsh.of_one macLabel [k, alongs a] [] (texts b) (texts b')
  rw [Fld.P_val, Nat.mod_eq_of_lt (texts_lt b), Nat.mod_eq_of_lt (texts_lt b')] at h
  exact h
theorem tag_key (k k' : Nat) (a b : List UInt8) : tag k a b = tag k' a b ↔ k % Fld.P = k' % Fld.P := by
  constructor
  · intro h
    exact (sum_key k k' a b).1 (tagOf_inj _ _ (Nat.lt_trans (sum_lt _ _ _) (by omega)) (Nat.lt_trans (sum_lt _ _ _) (by omega)) h)
  · exact tag_mod k k' a b
theorem tag_along (k : Nat) (a a' b : List UInt8) (h : tag k a b = tag k a' b) : alongs a = alongs a' :=
  (sum_along k a a' b).1 (tagOf_inj _ _ (Nat.lt_trans (sum_lt _ _ _) (by omega)) (Nat.lt_trans (sum_lt _ _ _) (by omega)) h)
theorem tag_text (k : Nat) (a b b' : List UInt8) (h : tag k a b = tag k a b') : texts b = texts b' :=
  (sum_text k a b b').1 (tagOf_inj _ _ (Nat.lt_trans (sum_lt _ _ _) (by omega)) (Nat.lt_trans (sum_lt _ _ _) (by omega)) h)
/-- Bytes that differ at one place alone have unlike sums. -/
theorem set_tell (label l : List UInt8) (i : Nat) (x : UInt8) (hi : i < l.length) (hx : x ≠ l[i]) : Hsh.bytes label l ≠ Hsh.bytes label (l.set i x) := by
  intro h
  have h2 := (Hsh.bytes_tell label l (l.set i x) (i / 7) (by rw [List.length_set]) (fun t ht => by
    rw [List.getElem?_set_ne (by intro e; subst e; exact ht rfl)])).1 h
  have h3 : (l.set i x)[i]? = some x := by rw [List.getElem?_set_self hi]
  rw [← h2, List.getElem?_eq_getElem hi] at h3
  injection h3 with h3
  exact hx h3.symm

/-! ### sealed and opened -/
theorem seal_len (k : Nat) (a t : List UInt8) : (put k a t).length = t.length + 8 := by
  unfold put
  rw [List.length_append, mask_len, tag_len]
theorem seal_body (k : Nat) (a t : List UInt8) : body (put k a t) = mask k t := by
  unfold body
  rw [seal_len, Nat.add_sub_cancel]
  unfold put
  rw [List.take_append_of_le_length (by rw [mask_len]; omega), List.take_of_length_le (by rw [mask_len]; omega)]
theorem seal_tail (k : Nat) (a t : List UInt8) : tail (put k a t) = tag k a (mask k t) := by
  unfold tail
  rw [seal_len, Nat.add_sub_cancel]
  unfold put
  rw [List.drop_append_of_le_length (by rw [mask_len]; omega), List.drop_of_length_le (by rw [mask_len]; omega), List.nil_append]
theorem body_tail (b : List UInt8) : body b ++ tail b = b := List.take_append_drop _ _
theorem opn_seal (k : Nat) (a t : List UInt8) : opn k a (put k a t) = (t, 0) := by
  unfold opn
  rw [if_neg (by rw [seal_len]; omega), if_pos (by rw [seal_tail, seal_body]), seal_body, mask_mask]
theorem opn_mod (k k' : Nat) (a b : List UInt8) (h : k % Fld.P = k' % Fld.P) : opn k a b = opn k' a b := by
  unfold opn
  rw [tag_mod k k' a _ h, mask_mod k k' _ h]
theorem opn_key (k k' : Nat) (a t : List UInt8) (h : k % Fld.P ≠ k' % Fld.P) : opn k' a (put k a t) = ([], 21) := by
  unfold opn
  rw [if_neg (by rw [seal_len]; omega), if_neg]
  rw [seal_tail, seal_body]
  exact fun e => h ((tag_key k k' a _).1 e)
theorem opn_short (k : Nat) (a b : List UInt8) (h : b.length < 8) : opn k a b = ([], 9) := if_pos h
theorem opn_err (k : Nat) (a b : List UInt8) : (opn k a b).2 = 0 ∨ ((opn k a b).2 ≠ 0 ∧ (opn k a b).1 = []) := by
  unfold opn
  split
  · exact .inr ⟨by decide, rfl⟩
  · split
    · exact .inl rfl
    · exact .inr ⟨by decide, rfl⟩
/-- Whatever is opened is sealed to the same bytes. -/
theorem seal_opn (k : Nat) (a b : List UInt8) (h : (opn k a b).2 = 0) : put k a (opn k a b).1 = b := by
  unfold opn at h ⊢
  split at h
  · cases h
  · rename_i h1
    split at h
    · rename_i h2
      rw [if_neg h1, if_pos h2]
      unfold put
      rw [mask_mask, ← h2, body_tail]
    · cases h
/-- One byte of what was sealed is another one. -/
theorem opn_turned (k : Nat) (a t : List UInt8) (i : Nat) (x : UInt8) (hi : i < (put k a t).length) (hx : x ≠ (put k a t)[i]) : opn k a ((put k a t).set i x) = ([], 21) := by
  have hl := seal_len k a t
  unfold opn
  rw [if_neg (by rw [List.length_set, hl]; omega), if_neg]
  intro e
  have hm : (mask k t).length = t.length := mask_len _ _
  unfold tail body at e
  rw [List.length_set, hl, Nat.add_sub_cancel] at e
  rcases Nat.lt_or_ge i t.length with hlt | hge
  · rw [List.drop_set_of_lt hlt, List.take_set] at e
    have e1 : (put k a t).drop t.length = tag k a (mask k t) := by have := seal_tail k a t; unfold tail at this; rw [hl, Nat.add_sub_cancel] at this; exact this
    have e2 : (put k a t).take t.length = mask k t := by have := seal_body k a t; unfold body at this; rw [hl, Nat.add_sub_cancel] at this; exact this
    rw [e1, e2] at e
    have hi2 : i < (mask k t).length := by omega
    refine set_tell textLabel (mask k t) i x hi2 (fun q => hx ?_) (tag_text k a _ _ e)
    rw [q]
    have : (put k a t)[i]? = (mask k t)[i]? := by unfold put; rw [List.getElem?_append_left hi2]
    rw [List.getElem?_eq_getElem hi, List.getElem?_eq_getElem hi2] at this
    injection this with this
    exact this.symm
  · rw [List.take_set_of_le hge] at e
    have e1 : (put k a t).drop t.length = tag k a (mask k t) := by have := seal_tail k a t; unfold tail at this; rw [hl, Nat.add_sub_cancel] at this; exact this
    have e2 : (put k a t).take t.length = mask k t := by have := seal_body k a t; unfold body at this; rw [hl, Nat.add_sub_cancel] at this; exact this
    rw [e2, ← e1] at e
    have g1 : ((put k a t).set i x)[i]? = some x := by rw [List.getElem?_set_self hi]
    have g2 : ((put k a t).set i x)[i]? = (put k a t)[i]? := by
      have q1 : (((put k a t).set i x).drop t.length)[i - t.length]? = ((put k a t).set i x)[i]? := by rw [List.getElem?_drop, show t.length + (i - t.length) = i by omega]
      have q2 : ((put k a t).drop t.length)[i - t.length]? = (put k a t)[i]? := by rw [List.getElem?_drop, show t.length + (i - t.length) = i by omega]
      rw [← q1, ← q2, e]
    rw [g1, List.getElem?_eq_getElem hi] at g2
    injection g2 with g2
    exact hx g2
/-- One byte of what goes along is another one. -/
theorem opn_along (k : Nat) (a t : List UInt8) (i : Nat) (x : UInt8) (hi : i < a.length) (hx : x ≠ a[i]) : opn k (a.set i x) (put k a t) = ([], 21) := by
  unfold opn
  rw [if_neg (by rw [seal_len]; omega), if_neg]
  rw [seal_tail, seal_body]
  exact fun e => set_tell alongLabel a i x hi hx (tag_along k _ _ _ e)
/-- A text that begins a longer one. -/
theorem seal_begins (k : Nat) (a t : List UInt8) (j : Nat) (hj : j ≤ t.length) : (put k a (t.take j)).take j = (put k a t).take j := by
  unfold put
  rw [List.take_append_of_le_length (by rw [mask_len, List.length_take]; omega), List.take_append_of_le_length (by rw [mask_len]; omega), mask_take, List.take_take, Nat.min_self]
/-- Two texts under one pad. -/
theorem seal_xor (k : Nat) (a a' t t' : List UInt8) (i : Nat) (h : i < t.length) (h' : i < t'.length) :
    ∃ x y, (put k a t)[i]? = some x ∧ (put k a' t')[i]? = some y ∧ x ^^^ y = t[i] ^^^ t'[i] := by
  refine ⟨_, _, by unfold put; rw [List.getElem?_append_left (by rw [mask_len]; exact h), mask_get k t i h], by unfold put; rw [List.getElem?_append_left (by rw [mask_len]; exact h'), mask_get k t' i h'], ?_⟩
  rw [UInt8.xor_assoc, UInt8.xor_comm (t'[i]) _, ← UInt8.xor_assoc (Hsh.streamU (key k) i), UInt8.xor_self, UInt8.zero_xor]
end Sl
end Go.Proofs.Ytdiacpadbndncaa
