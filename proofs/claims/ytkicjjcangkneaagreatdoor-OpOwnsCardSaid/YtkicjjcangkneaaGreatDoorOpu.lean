/-
  What is written is read; what is read, written again, is the same; no beginning is whole: for each kind, over lists of bytes.
-/
import Derived.Test.YtkicjjcangkneaaGreatDoorOut
namespace Go.Proofs.YtkicjjcangkneaaGreatDoor
namespace Pk

/-! ### what is written is read -/
theorem rnd_num (u : Nat) (r : List UInt8) (h : u < 18446744073709551616) : pNum (num u ++ r) = ⟨u, (num u).length, 0⟩ := sev_num0 u r h
theorem rnd_int (n : Int) (r : List UInt8) (h1 : -9223372036854775808 ≤ n) (h2 : n ≤ 9223372036854775807) : pInt (nInt n ++ r) = ⟨n, (nInt n).length, 0⟩ := by
  unfold pInt nInt
  rw [rnd_num (zig n) r (zig_lt n h1 h2)]
  show R.mk (zag (zig n)) _ _ = _
  rw [zag_zig]
theorem rnd_many (m n : Int) (r : List UInt8) (h1 : 0 ≤ n) (h2 : n ≤ m) (h3 : n ≤ 9223372036854775807) : pMany m (nInt n ++ r) = ⟨n, (nInt n).length, 0⟩ := by
  have h := rnd_int n r (by omega) h3
  unfold pMany
  rw [h, if_neg]
  rintro ⟨_, h⟩
  rcases h with h | h
  · have h : n < 0 := h
    omega
  · have h : m < n := h
    omega
theorem rnd_bool (b : Bool) (r : List UInt8) : pBool (nBool b ++ r) = ⟨b, (nBool b).length, 0⟩ := by
  unfold pBool nBool
  cases b
  · rw [rnd_many 1 _ r (by simp) (by simp) (by simp)]; rfl
  · rw [rnd_many 1 _ r (by simp) (by simp) (by simp)]; rfl
theorem text_of {l : List UInt8} {v : Int} {n : Nat} (h : pInt l = ⟨v, n, 0⟩) (h0 : 0 ≤ v) (h1 : v ≤ (l.length - n : Nat)) : pText l = ⟨(l.drop n).take v.toNat, n + v.toNat, 0⟩ := by
  unfold pText
  rw [h, if_neg (fun h => h rfl), if_neg (by show ¬ v < 0; omega), if_neg (by show ¬ ((l.length - n : Nat) : Int) < v; omega)]
theorem rnd_text (s r : List UInt8) (hs : s.length ≤ 1000000) : pText (nText s ++ r) = ⟨s, (nText s).length, 0⟩ := by
  have h := rnd_int (s.length : Nat) (s ++ r) (by omega) (by omega)
  have e : nText s ++ r = nInt (s.length : Nat) ++ (s ++ r) := by unfold nText; rw [List.append_assoc]
  rw [e, text_of h (by omega) (by rw [List.length_append, List.length_append]; omega)]
  rw [List.drop_left, Int.toNat_natCast, List.take_left]
  unfold nText
  rw [List.length_append]
theorem name_of {l : List UInt8} {a b : Int} {c n1 n2 n3 : Nat} (h1 : pInt l = ⟨a, n1, 0⟩) (h2 : pInt (l.drop n1) = ⟨b, n2, 0⟩) (h3 : pNum (l.drop (n1 + n2)) = ⟨c, n3, 0⟩) : pName l = ⟨⟨a, b, c⟩, n1 + n2 + n3, 0⟩ := by
  unfold pName
  simp only [h1, h2, h3]
  rw [if_neg (fun h => h rfl), if_neg (fun h => h rfl), if_neg (fun h => h rfl)]
theorem rnd_name (x : Nm) (r : List UInt8) (h1 : -9223372036854775808 ≤ x.a) (h2 : x.a ≤ 9223372036854775807) (h3 : -9223372036854775808 ≤ x.b) (h4 : x.b ≤ 9223372036854775807) (h5 : x.c < 18446744073709551616) : pName (nName x ++ r) = ⟨x, (nName x).length, 0⟩ := by
  have e : nName x ++ r = nInt x.a ++ (nInt x.b ++ (num x.c ++ r)) := by unfold nName; simp only [List.append_assoc]
  have e2 : (nInt x.a ++ (nInt x.b ++ (num x.c ++ r))).drop ((nInt x.a).length + (nInt x.b).length) = num x.c ++ r := by
    rw [← List.drop_drop, List.drop_left, List.drop_left]
  rw [e, name_of (rnd_int x.a _ h1 h2) (by rw [List.drop_left]; exact rnd_int x.b _ h3 h4) (by rw [e2]; exact rnd_num x.c r h5)]
  unfold nName
  rw [List.length_append, List.length_append]

/-! ### no beginning is whole -/
theorem cut_num (u i : Nat) (h : u < 18446744073709551616) (hi : i < (num u).length) : pNum ((num u).take i) = ⟨0, 0, 9⟩ := sev_cut0 u i h hi
theorem cut_int (n : Int) (i : Nat) (h1 : -9223372036854775808 ≤ n) (h2 : n ≤ 9223372036854775807) (hi : i < (nInt n).length) : pInt ((nInt n).take i) = ⟨0, 0, 9⟩ := by
  unfold pInt nInt
  rw [cut_num (zig n) i (zig_lt n h1 h2) hi]
  show R.mk (zag 0) _ _ = _
  rw [zag_zero]
theorem many_bad {m : Int} {l : List UInt8} (h : pInt l = ⟨0, 0, 9⟩) : pMany m l = ⟨0, 0, 9⟩ := by
  unfold pMany
  rw [h, if_neg]
  rintro ⟨h, _⟩
  exact absurd h (by show ¬ (9 : Int) = 0; decide)
theorem cut_bool (b : Bool) (i : Nat) (hi : i < (nBool b).length) : pBool ((nBool b).take i) = ⟨false, 0, 9⟩ := by
  unfold pBool
  have h : pMany 1 ((nBool b).take i) = ⟨0, 0, 9⟩ := many_bad (by cases b <;> exact cut_int _ i (by omega) (by omega) hi)
  rw [h]
  rfl
theorem take_app {l l' : List UInt8} {i : Nat} (h : i < l.length) : (l ++ l').take i = l.take i := by
  rw [List.take_append_of_le_length (by omega)]
theorem take_app2 {l l' : List UInt8} {i : Nat} (h : l.length ≤ i) : (l ++ l').take i = l ++ l'.take (i - l.length) := by
  rw [List.take_append, List.take_of_length_le h]
theorem cut_text (s : List UInt8) (i : Nat) (hs : s.length ≤ 1000000) (hi : i < (nText s).length) : pText ((nText s).take i) = ⟨[], 0, 9⟩ := by
  unfold nText at hi ⊢
  by_cases h : i < (nInt (s.length : Nat)).length
  · rw [take_app h]
    have hc := cut_int (s.length : Nat) i (by omega) (by omega) h
    unfold pText
    rw [hc, if_pos (by show (9 : Int) ≠ 0; decide)]
  · rw [take_app2 (by omega)]
    rw [List.length_append] at hi
    have hr := rnd_int (s.length : Nat) (s.take (i - (nInt (s.length : Nat)).length)) (by omega) (by omega)
    unfold pText
    rw [hr, if_neg (fun h => h rfl), if_neg (by show ¬ ((s.length : Nat) : Int) < 0; omega), if_pos]
    show ((_ - (nInt (s.length : Nat)).length : Nat) : Int) < ((s.length : Nat) : Int)
    rw [List.length_append, List.length_take]
    omega
theorem cut_name (x : Nm) (i : Nat) (h1 : -9223372036854775808 ≤ x.a) (h2 : x.a ≤ 9223372036854775807) (h3 : -9223372036854775808 ≤ x.b) (h4 : x.b ≤ 9223372036854775807) (h5 : x.c < 18446744073709551616) (hi : i < (nName x).length) : pName ((nName x).take i) = ⟨⟨0, 0, 0⟩, 0, 9⟩ := by
  have e : nName x = nInt x.a ++ (nInt x.b ++ num x.c) := by unfold nName; rw [List.append_assoc]
  rw [e] at hi ⊢
  rw [List.length_append, List.length_append] at hi
  by_cases c1 : i < (nInt x.a).length
  · rw [take_app c1]
    unfold pName
    rw [cut_int x.a i h1 h2 c1, if_pos (by show (9 : Int) ≠ 0; decide)]
  · rw [take_app2 (by omega)]
    have r1 := rnd_int x.a ((nInt x.b ++ num x.c).take (i - (nInt x.a).length)) h1 h2
    unfold pName
    rw [r1, if_neg (fun h => h rfl)]
    simp only [List.drop_left]
    by_cases c2 : i - (nInt x.a).length < (nInt x.b).length
    · rw [take_app c2, cut_int x.b _ h3 h4 c2, if_pos (by show (9 : Int) ≠ 0; decide)]
    · rw [take_app2 (by omega)]
      have r2 := rnd_int x.b ((num x.c).take (i - (nInt x.a).length - (nInt x.b).length)) h3 h4
      rw [r2, if_neg (fun h => h rfl)]
      simp only
      rw [← List.drop_drop, List.drop_left, List.drop_left, cut_num x.c _ h5 (by omega), if_pos (by show (9 : Int) ≠ 0; decide)]

/-! ### what is read, written again -/
theorem one_num (l : List UInt8) (h : (pNum l).e = 0) : num (pNum l).v = l.take (pNum l).n := num_sev l 0 h
theorem one_int (l : List UInt8) (h : (pInt l).e = 0) : nInt (pInt l).v = l.take (pInt l).n := by
  unfold nInt
  show num (zig (zag (pNum l).v)) = _
  rw [zig_zag]
  exact one_num l h
theorem many_ok {m : Int} {l : List UInt8} (h : (pMany m l).e = 0) : pMany m l = pInt l ∧ 0 ≤ (pInt l).v ∧ (pInt l).v ≤ m ∧ (pInt l).e = 0 := by
  unfold pMany at h ⊢
  by_cases c : (pInt l).e = 0 ∧ ((pInt l).v < 0 ∨ m < (pInt l).v)
  · rw [if_pos c] at h; exact absurd h (by show ¬ (7 : Int) = 0; decide)
  · rw [if_neg c] at h ⊢
    exact ⟨rfl, by omega, by omega, h⟩
theorem one_many (m : Int) (l : List UInt8) (h : (pMany m l).e = 0) : nInt (pMany m l).v = l.take (pMany m l).n := by
  obtain ⟨h1, _, _, h2⟩ := many_ok h
  rw [h1]
  exact one_int l h2
theorem one_bool (l : List UInt8) (h : (pBool l).e = 0) : nBool (pBool l).v = l.take (pBool l).n := by
  have h1 := one_many 1 l h
  obtain ⟨h2, h3, h4, _⟩ := many_ok (m := 1) (l := l) h
  show nBool (decide ((pMany 1 l).v = 1)) = l.take (pMany 1 l).n
  rw [← h1]
  unfold nBool
  rw [h2]
  have hv : (pInt l).v = 0 ∨ (pInt l).v = 1 := by omega
  rcases hv with e | e <;> rw [e] <;> rfl
theorem int_len (l : List UInt8) : (pInt l).n ≤ l.length := (sev_len l 0).1
theorem one_text (l : List UInt8) (h : (pText l).e = 0) : nText (pText l).v = l.take (pText l).n ∧ (pText l).n ≤ l.length ∧ (pText l).v.length ≤ l.length := by
  unfold pText at h ⊢
  by_cases c1 : (pInt l).e ≠ 0
  · rw [if_pos c1] at h; exact absurd h c1
  · rw [if_neg c1] at h ⊢
    by_cases c2 : (pInt l).v < 0
    · rw [if_pos c2] at h; exact absurd h (by show ¬ (7 : Int) = 0; decide)
    · rw [if_neg c2] at h ⊢
      by_cases c3 : ((l.length - (pInt l).n : Nat) : Int) < (pInt l).v
      · rw [if_pos c3] at h; exact absurd h (by show ¬ (9 : Int) = 0; decide)
      · rw [if_neg c3]
        have h1 := one_int l (by omega)
        have hn := int_len l
        have hlen : ((l.drop (pInt l).n).take (pInt l).v.toNat).length = (pInt l).v.toNat := by rw [List.length_take, List.length_drop]; omega
        refine ⟨?_, by show (pInt l).n + (pInt l).v.toNat ≤ _; omega, by show ((l.drop (pInt l).n).take (pInt l).v.toNat).length ≤ _; rw [hlen]; omega⟩
        show nText ((l.drop (pInt l).n).take (pInt l).v.toNat) = l.take ((pInt l).n + (pInt l).v.toNat)
        unfold nText
        rw [hlen, Int.toNat_of_nonneg (by omega), h1, List.take_add]
theorem one_name (l : List UInt8) (h : (pName l).e = 0) : nName (pName l).v = l.take (pName l).n ∧ (pName l).n ≤ l.length := by
  unfold pName at h ⊢
  by_cases c1 : (pInt l).e ≠ 0
  · rw [if_pos c1] at h; exact absurd h c1
  · rw [if_neg c1] at h ⊢
    by_cases c2 : (pInt (l.drop (pInt l).n)).e ≠ 0
    · rw [if_pos c2] at h; exact absurd h c2
    · rw [if_neg c2] at h ⊢
      by_cases c3 : (pNum (l.drop ((pInt l).n + (pInt (l.drop (pInt l).n)).n))).e ≠ 0
      · rw [if_pos c3] at h; exact absurd h c3
      · rw [if_neg c3]
        have h1 := one_int l (by omega)
        have h2 := one_int (l.drop (pInt l).n) (by omega)
        have h3 := one_num (l.drop ((pInt l).n + (pInt (l.drop (pInt l).n)).n)) (by omega)
        have l1 := int_len l
        have l2 := int_len (l.drop (pInt l).n)
        have l3 := (sev_len (l.drop ((pInt l).n + (pInt (l.drop (pInt l).n)).n)) 0).1
        rw [List.length_drop] at l2 l3
        refine ⟨?_, by show (pInt l).n + (pInt (l.drop (pInt l).n)).n + (pNum (l.drop ((pInt l).n + (pInt (l.drop (pInt l).n)).n))).n ≤ _; unfold pNum; omega⟩
        show nInt (pInt l).v ++ nInt (pInt (l.drop (pInt l).n)).v ++ num (pNum (l.drop ((pInt l).n + (pInt (l.drop (pInt l).n)).n))).v = l.take ((pInt l).n + (pInt (l.drop (pInt l).n)).n + (pNum (l.drop ((pInt l).n + (pInt (l.drop (pInt l).n)).n))).n)
        rw [h1, h2, h3, List.take_add, List.take_add]
end Pk
end Go.Proofs.YtkicjjcangkneaaGreatDoor
