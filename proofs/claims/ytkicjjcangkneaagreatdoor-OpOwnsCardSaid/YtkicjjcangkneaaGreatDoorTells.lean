/-
  Bytes of one length that are alike but within one seven: their sums are alike just if they are; so are sums under labels that are such. No condition.
-/
import Derived.Test.YtkicjjcangkneaaGreatDoorJa
namespace Go.Proofs.YtkicjjcangkneaaGreatDoor
namespace Hsh
theorem chunk_get (l : List UInt8) (i t : Nat) (ht : t < 7) : (chunk l i)[t]? = l[7 * i + t]? := by
  unfold chunk
  rw [List.getElem?_take, if_pos ht, List.getElem?_drop]
theorem chunk_same (l l' : List UInt8) (i j : Nat) (hj : j ≠ i) (h : ∀ t, t / 7 ≠ i → l[t]? = l'[t]?) : chunk l j = chunk l' j := by
  apply List.ext_getElem?
  intro t
  rcases Nat.lt_or_ge t 7 with ht | ht
  · rw [chunk_get l j t ht, chunk_get l' j t ht]
    exact h _ (by omega)
  · rw [List.getElem?_eq_none (by rw [chunk_len]; omega), List.getElem?_eq_none (by rw [chunk_len]; omega)]
theorem all_same (l l' : List UInt8) (i : Nat) (hlen : l.length = l'.length) (h : ∀ t, t / 7 ≠ i → l[t]? = l'[t]?) (hw : word l i = word l' i) : l = l' := by
  have hc : chunk l i = chunk l' i := le_inj _ _ (by rw [chunk_len, chunk_len, hlen]) hw
  apply List.ext_getElem?
  intro t
  by_cases ht : t / 7 = i
  · have e : t = 7 * i + t % 7 := by omega
    rw [e, ← chunk_get l i (t % 7) (Nat.mod_lt _ (by omega)), ← chunk_get l' i (t % 7) (Nat.mod_lt _ (by omega)), hc]
  · exact h t ht
/-- The words ahead of one, and those behind it. -/
theorem words_split (l : List UInt8) (n i : Nat) (hi : i < n) : upto l n = upto l i ++ word l i :: (List.range (n - (i + 1))).map fun k => word l (i + 1 + k) := by
  unfold upto
  rw [show n = i + (1 + (n - (i + 1))) by omega, List.range_add, List.map_append]
  congr 1
  rw [List.range_add, List.map_append, List.map_append]
  simp only [List.range_one, List.map_cons, List.map_nil, List.cons_append, List.nil_append, List.map_map, Nat.add_zero, Function.comp_def]
  congr 1
  rw [show i + (1 + (n - (i + 1))) - (i + 1) = n - (i + 1) by omega]
  refine List.map_congr_left fun k _ => ?_
  rw [Nat.add_assoc]
theorem words_tell (l l' : List UInt8) (i : Nat) (hlen : l.length = l'.length) (h : ∀ t, t / 7 ≠ i → l[t]? = l'[t]?) (s k : Nat) (rest : List Nat) :
    fold s k (words l ++ rest) = fold s k (words l' ++ rest) ↔ l = l' := by
  constructor
  · intro he
    by_cases hi : i < sevens l.length
    · unfold words at he
      rw [← hlen, words_split l _ i hi, words_split l' _ i hi] at he
      have e1 : upto l i = upto l' i := by
        unfold upto
        refine List.map_congr_left fun j hj => ?_
        have hj := List.mem_range.1 hj
        unfold word
        rw [chunk_same l l' i j (by omega) h]
      have e2 : ((List.range (sevens l.length - (i + 1))).map fun k => word l (i + 1 + k)) = (List.range (sevens l.length - (i + 1))).map fun k => word l' (i + 1 + k) := by
        refine List.map_congr_left fun j _ => ?_
        unfold word
        rw [chunk_same l l' i (i + 1 + j) (by omega) h]
      rw [e1, e2, List.append_assoc, List.append_assoc, List.cons_append, List.cons_append] at he
      have hw := (one_tells _ _ _ _ _ _).1 he
      have h1 := word_lt l i
      have h2 := word_lt l' i
      rw [Fld.P_val] at hw
      exact all_same l l' i hlen h (by omega)
    · apply List.ext_getElem?
      intro t
      by_cases ht : t / 7 = i
      · unfold sevens at hi
        rw [List.getElem?_eq_none (by omega), List.getElem?_eq_none (by omega)]
      · exact h t ht
  · intro e
    rw [e]
theorem bytes_tell (label l l' : List UInt8) (i : Nat) (hlen : l.length = l'.length) (h : ∀ t, t / 7 ≠ i → l[t]? = l'[t]?) : bytes label l = bytes label l' ↔ l = l' := by
  unfold bytes of all
  have e : ∀ x : List UInt8, x.length = l.length → words label ++ (words x ++ [x.length]).length :: (words x ++ [x.length] ++ [0]) = (words label ++ [sevens l.length + 1]) ++ (words x ++ [l.length, 0]) := by
    intro x hx
    rw [List.length_append, words_len, hx]
    simp
  rw [e l rfl, e l' hlen.symm, fold_app (words label ++ [sevens l.length + 1]) (words l ++ [l.length, 0]), fold_app (words label ++ [sevens l.length + 1]) (words l' ++ [l.length, 0])]
  exact words_tell l l' i hlen h _ _ _
theorem label_tell (l l' : List UInt8) (i : Nat) (r : List Nat) (hlen : l.length = l'.length) (h : ∀ t, t / 7 ≠ i → l[t]? = l'[t]?) : of l r = of l' r ↔ l = l' := by
  unfold of all
  rw [← hlen]
  exact words_tell l l' i hlen h _ _ _
theorem of_set (label : List UInt8) (l : List Nat) (i x : Nat) (hi : i < l.length) : of label l = of label (l.set i x) ↔ l[i] % Fld.P = x % Fld.P := by
  have e1 : l = l.take i ++ l[i] :: l.drop (i + 1) := by rw [← List.drop_eq_getElem_cons hi, List.take_append_drop]
  have e2 : l.set i x = l.take i ++ x :: l.drop (i + 1) := List.set_eq_take_append_cons_drop.trans (if_pos hi)
  rw [e2]
  have h := of_one label (l.take i) (l.drop (i + 1)) l[i] x
  rw [← e1] at h
  exact h
end Hsh
end Go.Proofs.YtkicjjcangkneaaGreatDoor
