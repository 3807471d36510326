/-
  Joined texts: Bxa Sea Seb Sec Sed See Sga Sgb Sgc Sgd Sge Sgf Sgg Sgh.
-/
import Derived.Test.YtkicjjcangkneaaGreatDoorJa
import Derived.Laws.StructEq
import Derived.Test.YtkicjjcangkneaaGreatDoorTells
import Derived.Test.YtkicjjcangkneaaGreatDoorLawD
import Derived.Deep.RegionHeld3
import Derived.Lib.AppendZerosOnto
import Derived.Lib.SliceRun
import Derived.Deep.DeepCutAuto
import Derived.Deep.CutBlock
import Derived.Laws.Externs

/-
  Boxes as numbers: public keys, keys, masks and tags, and what a box tells a secret; small laws on worlds that the walks of package box want. No condition but what is said.
-/
namespace Go.Proofs.YtkicjjcangkneaaGreatDoor
open Go.RowKit

namespace Bx
def pub (s : Nat) : Nat := Fld.pow 37 s
def mask (k : Nat) : Nat := Hsh.of [109, 97, 115, 107] [k]
def tag (k b t : Nat) : Nat := Hsh.of [116, 97, 103] [k, b, t]
theorem pub_lt (s : Nat) : pub s < 2305843009213693951 := Fld.pow_lt _ _
theorem mask_lt (k : Nat) : mask k < 2305843009213693951 := Hsh.of_lt _ _
theorem tag_lt (k b t : Nat) : tag k b t < 2305843009213693951 := Hsh.of_lt _ _
/-- What a box tells a secret: a number, and an error. -/
def opn (s t e b g : Nat) : Nat × Nat :=
  if t = pub s then if g = tag (Fld.pow e s) b t then (Fld.sub b (mask (Fld.pow e s)), 0) else (0, 21) else (0, 20)
/-- The box of a number v for a public key t, by once o: e, b, g are its numbers. -/
def Mk (t o v e b g : Nat) : Prop := e = pub o ∧ b = Fld.add v (mask (Fld.pow t o)) ∧ g = tag (Fld.pow t o) b t

theorem small {n : Nat} (h : n < 2305843009213693951) : n % Fld.P = n := Nat.mod_eq_of_lt h
theorem add_sub (b m : Nat) (hb : b < 2305843009213693951) : Fld.add (Fld.sub b m) m = b := by
  unfold Fld.add Fld.sub
  have hP : Fld.P = 2305843009213693951 := rfl
  rw [hP]; omega
theorem sub_add (v m : Nat) (hv : v < 2305843009213693951) : Fld.sub (Fld.add v m) m = v := by
  unfold Fld.add Fld.sub
  have hP : Fld.P = 2305843009213693951 := rfl
  rw [hP]; omega
theorem sub_adds (v u m : Nat) : Fld.sub (Fld.add v m) (Fld.add u m) = Fld.sub v u := by
  unfold Fld.add Fld.sub
  have hP : Fld.P = 2305843009213693951 := rfl
  rw [hP]; omega
theorem add_inj (v u m : Nat) (hv : v < 2305843009213693951) (hu : u < 2305843009213693951) : Fld.add v m = Fld.add u m ↔ v = u := by
  unfold Fld.add
  have hP : Fld.P = 2305843009213693951 := rfl
  rw [hP]; omega
/-- Of the numbers under a tag each one tells, modulo the prime. -/
theorem tag_key (k k' b t : Nat) : tag k b t = tag k' b t ↔ k % Fld.P = k' % Fld.P := Hsh.of_one [116, 97, 103] [] [b, t] k k'
theorem tag_body (k b b' t : Nat) : tag k b t = tag k b' t ↔ b % Fld.P = b' % Fld.P := Hsh.of_one [116, 97, 103] [k] [t] b b'
/-- Diffie and Hellman. -/
theorem same_key (a o : Nat) : Fld.pow (pub o) a = Fld.pow (pub a) o := by
  unfold pub Fld.pow
  rw [← Nat.pow_mod, ← Nat.pow_mod, ← Nat.pow_mul, ← Nat.pow_mul, Nat.mul_comm]
theorem pub_add (a c : Nat) : Fld.mul (pub a) (pub c) = Fld.pow 37 (a + c) := by
  unfold pub Fld.mul Fld.pow
  rw [← Nat.mul_mod, ← Nat.pow_add]
theorem pub_mod (n : Nat) : Fld.pow 37 (n % 2305843009213693950) = Fld.pow 37 n := by
  have h37 : (37 : Nat) ^ Fld.N % Fld.P = 1 := Fld.root_one
  have e : n = Fld.N * (n / Fld.N) + n % Fld.N := (Nat.div_add_mod n Fld.N).symm
  have h := Fld.one_mod 37 (Fld.N * (n / Fld.N)) (n % Fld.N) (Fld.ones 37 Fld.N h37 _)
  rw [← e] at h
  exact h.symm
theorem pub_ne (s : Nat) : pub s ≠ 0 := Fld.pow_ne s
theorem mk_open {a o v e b g : Nat} (hv : v < 2305843009213693951) (h : Mk (pub a) o v e b g) : opn a (pub a) e b g = (v, 0) := by
  obtain ⟨rfl, rfl, rfl⟩ := h
  unfold opn
  rw [if_pos rfl, same_key, if_pos rfl, sub_add v _ hv]
theorem Mk.lt {t o v e b g : Nat} (h : Mk t o v e b g) : e < 2305843009213693951 ∧ b < 2305843009213693951 ∧ g < 2305843009213693951 := by
  obtain ⟨rfl, rfl, rfl⟩ := h
  exact ⟨pub_lt _, Fld.add_lt _ _, tag_lt _ _ _⟩
theorem Mk.only {t o v e b g e' b' g' : Nat} (h : Mk t o v e b g) (h' : Mk t o v e' b' g') : e = e' ∧ b = b' ∧ g = g' := by
  obtain ⟨rfl, rfl, rfl⟩ := h
  obtain ⟨rfl, rfl, rfl⟩ := h'
  exact ⟨rfl, rfl, rfl⟩
theorem opn_lt (s t e b g : Nat) : (opn s t e b g).1 < 2305843009213693951 ∧ (opn s t e b g).2 ≤ 21 := by
  unfold opn
  split
  · split
    · exact ⟨Fld.sub_lt _ _, by omega⟩
    · exact ⟨by omega, by omega⟩
  · exact ⟨by omega, by omega⟩

theorem rd_blk {w : World} {g t : Nat} {cs : List Value} (h : Blk w g t cs.toArray) : Rd w.heap.size w (some ⟨g, 0, none⟩) cs := fun _ =>
  ⟨g, 0, rfl, h.lt, fun i u hu => by rw [Nat.zero_add, h.cell i]; simpa using hu⟩
theorem news (w : World) (l : List Nat) : Rd (w.alloc (.cells (u64s l).toArray 25)).heap.size (w.alloc (.cells (u64s l).toArray 25)) (some ⟨w.heap.size, 0, none⟩) (u64s l) := rd_blk (blk_new w 25 _)
theorem below_new {w1 w2 : World} {o : Obj} (h : Below (w1.alloc o).heap.size (w1.alloc o) w2) : Below w1.heap.size w1 w2 := ((Below.refl _ w1).alloc (Nat.le_refl _) _).trans (h.mono (by simp))
/-- A record of four numbers that is written whole. -/
def set4 (w : World) (R : Nat) (a b c d : Value) : World := (((w.setCell ⟨R, 0, none⟩ a).setCell ⟨R, 1, none⟩ b).setCell ⟨R, 2, none⟩ c).setCell ⟨R, 3, none⟩ d
theorem blk_set4 {w : World} {R t : Nat} {p q r s : Value} (h : Blk w R t #[p, q, r, s]) (a b c d : Value) : Blk (set4 w R a b c d) R t #[a, b, c, d] := by
  have h1 := (((h.set_ 0 a).set_ 1 b).set_ 2 c).set_ 3 d
  exact h1
theorem grown_set4 (w : World) (R : Nat) (a b c d : Value) : w.grownBy (set4 w R a b c d) (some R) := only_set (only_set (only_set (only_set (only_refl _ _) 0 a) 1 b) 2 c) 3 d
theorem cell_set4 {w : World} {R B o : Nat} {v : Value} (h : w.cell? ⟨B, o, none⟩ = some v) (hB : B ≠ R) (a b c d : Value) : (set4 w R a b c d).cell? ⟨B, o, none⟩ = some v :=
  (World.cell?_of_block (Below.heap_setCell _ ⟨R, 3, none⟩ d B hB)).trans ((World.cell?_of_block (Below.heap_setCell _ ⟨R, 2, none⟩ c B hB)).trans
    ((World.cell?_of_block (Below.heap_setCell _ ⟨R, 1, none⟩ b B hB)).trans ((World.cell?_of_block (Below.heap_setCell _ ⟨R, 0, none⟩ a B hB)).trans h)))
theorem below_set4 {w : World} {R n : Nat} (a b c d : Value) (h : n ≤ R) (hn : n ≤ w.heap.size) : Below n w (set4 w R a b c d) := below_only (grown_set4 w R a b c d) h hn
end Bx

/-! ### sums of a label and numbers that are laid for the call -/
theorem of_new (s : ByteArray) (l : List Nat) (n : Nat) (w : World) (hs : s.size ≤ 1000000) (hn : n = l.length) (hl : l.length ≤ 1000000) (hx : ∀ x ∈ l, x < 18446744073709551616) :
    Calls Tryz.prog 132 #[.string s, .slice (some ⟨w.heap.size, 0, none⟩) n n] (w.alloc (.cells (u64s l).toArray 25)) fun e w' => e = .returned (.int .u64 (Hsh.of s.data.toList l : Nat)) ∧ Below w.heap.size w w' :=
  (of_any s _ n n l _ (by omega) hn (by omega) hx (Bx.news w l)).mono fun _ _ ⟨h, hb⟩ => ⟨h, Bx.below_new hb⟩
theorem rof_new (s : ByteArray) (l : List Nat) (n : Nat) (w : World) (hs : s.size ≤ 1000000) (hn : n = l.length) (hl : l.length ≤ 1000000) :
    Calls Tryz.prog 133 #[.string s, .slice (some ⟨w.heap.size, 0, none⟩) n n] (w.alloc (.cells (u64s l).toArray 25)) fun e w' => e = .returned (.int .u64 (Hsh.of s.data.toList l : Nat)) ∧ Below w.heap.size w w' :=
  (rof_any s l _ n n _ hs hn (by omega) (Bx.news w l)).mono fun _ _ ⟨h, hb⟩ => ⟨h, Bx.below_new hb⟩

/-! ### public keys and masks -/
theorem pub_any (s : Nat) (w : World) (hs : s < 18446744073709551616) :
    Calls Tryz.prog 203 #[.int .u64 s] w fun e w' => e = .returned (.int .u64 (Bx.pub s : Nat)) ∧ Below w.heap.size w w' := by
  have h := pow_any 37 s w (by omega) hs
  have H := Lib.hid h
  clear h
  go_enter Tryz.func203, Tryz.ntmps203
  go_wp2_with fail
  refine (H.out).mono ?_
  rintro e w1 ⟨rfl, hb1⟩
  go_wp2
  go_ret
  exact ⟨rfl, hb1⟩

end Go.Proofs.YtkicjjcangkneaaGreatDoor

/-
  Package seal's bytes, told without any program: the pad, the tag, what is sealed and what is opened, and what follows of them. No condition.
-/
namespace Go.Proofs.YtkicjjcangkneaaGreatDoor
namespace Sl
/-- Bytes, xor others. -/
def xor (l p : List UInt8) : List UInt8 := List.zipWith (· ^^^ ·) l p
def sealLabel : List UInt8 := [115, 101, 97, 108]
def macLabel : List UInt8 := [109, 97, 99]
def alongLabel : List UInt8 := [97, 108, 111, 110, 103]
def textLabel : List UInt8 := [116, 101, 120, 116]
def key (k : Nat) : Nat := Hsh.secret sealLabel [k]
def pad (k n : Nat) : List UInt8 := Hsh.stream (key k) n
def mask (k : Nat) (l : List UInt8) : List UInt8 := xor l (pad k l.length)
def alongs (a : List UInt8) : Nat := Hsh.bytes alongLabel a
def texts (b : List UInt8) : Nat := Hsh.bytes textLabel b
def sum (k : Nat) (a b : List UInt8) : Nat := Hsh.of macLabel [k, alongs a, texts b]
def tagU (x i : Nat) : UInt8 := UInt8.ofNat (Hsh.byteOf x i)
def tagOf (x : Nat) : List UInt8 := (List.range 8).map (tagU x)
def tag (k : Nat) (a b : List UInt8) : List UInt8 := tagOf (sum k a b)
def put (k : Nat) (a t : List UInt8) : List UInt8 := mask k t ++ tag k a (mask k t)
/-- The bytes ahead of the tag. -/
def body (b : List UInt8) : List UInt8 := b.take (b.length - 8)
def tail (b : List UInt8) : List UInt8 := b.drop (b.length - 8)
/-- What Open tells: the bytes, and how it is wrong. -/
def opn (k : Nat) (a b : List UInt8) : List UInt8 × Nat :=
  if b.length < 8 then ([], 9) else if tail b = tag k a (body b) then (mask k (body b), 0) else ([], 21)

theorem xor_len (l p : List UInt8) (h : l.length = p.length) : (xor l p).length = l.length := by
  unfold xor
  rw [List.length_zipWith]
  omega
theorem pad_len (k n : Nat) : (pad k n).length = n := Hsh.stream_len _ _
theorem mask_len (k : Nat) (l : List UInt8) : (mask k l).length = l.length := xor_len _ _ (pad_len _ _).symm
theorem xor_get (l p : List UInt8) (i : Nat) (h1 : i < l.length) (h2 : i < p.length) : (xor l p)[i]? = some (l[i] ^^^ p[i]) := by
  unfold xor
  rw [List.getElem?_zipWith, List.getElem?_eq_getElem h1, List.getElem?_eq_getElem h2]
theorem mask_get (k : Nat) (l : List UInt8) (i : Nat) (h : i < l.length) : (mask k l)[i]? = some (l[i] ^^^ Hsh.streamU (key k) i) := by
  have h2 : i < (pad k l.length).length := by rw [pad_len]; exact h
  unfold mask
  rw [xor_get l _ i h h2]
  congr 2
  show (Hsh.stream (key k) l.length)[i]'h2 = _
  simp [Hsh.stream]
theorem mask_snoc (k : Nat) (l : List UInt8) (x : UInt8) : mask k (l ++ [x]) = mask k l ++ [x ^^^ Hsh.streamU (key k) l.length] := by
  unfold mask pad
  rw [List.length_append, List.length_singleton, Hsh.stream_succ]
  unfold xor
  rw [List.zipWith_append (by rw [Hsh.stream_len])]
  rfl
theorem mask_take (k : Nat) (l : List UInt8) (j : Nat) : mask k (l.take j) = (mask k l).take j := by
  apply List.ext_getElem?
  intro i
  rcases Nat.lt_or_ge i (l.take j).length with h | h
  · have h' := h
    rw [List.length_take] at h'
    rw [mask_get k _ i h, List.getElem?_take, if_pos (by omega), mask_get k l i (by omega), List.getElem_take]
  · rw [List.getElem?_eq_none (by rw [mask_len]; exact h), List.getElem?_eq_none (by rw [List.length_take, mask_len]; rw [List.length_take] at h; omega)]
theorem mask_mask (k : Nat) (l : List UInt8) : mask k (mask k l) = l := by
  apply List.ext_getElem?
  intro i
  rcases Nat.lt_or_ge i l.length with h | h
  · have h2 : i < (mask k l).length := by rw [mask_len]; exact h
    rw [mask_get k _ i h2, List.getElem?_eq_getElem h]
    have h3 := mask_get k l i h
    rw [List.getElem?_eq_getElem h2] at h3
    injection h3 with h3
    rw [h3, UInt8.xor_assoc, UInt8.xor_self, UInt8.xor_zero]
  · rw [List.getElem?_eq_none (by rw [mask_len, mask_len]; exact h), List.getElem?_eq_none h]
theorem key_mod (k k' : Nat) (h : k % Fld.P = k' % Fld.P) : key k = key k' := by
  unfold key Hsh.secret
  rw [Hsh.of_mod sealLabel [k] [k'] (by simp [h])]
theorem mask_mod (k k' : Nat) (l : List UInt8) (h : k % Fld.P = k' % Fld.P) : mask k l = mask k' l := by
  unfold mask pad
  rw [key_mod k k' h]

/-! ### tags -/
theorem alongs_lt (a : List UInt8) : alongs a < 2305843009213693951 := Hsh.of_lt _ _
theorem texts_lt (a : List UInt8) : texts a < 2305843009213693951 := Hsh.of_lt _ _
theorem sum_lt (k : Nat) (a b : List UInt8) : sum k a b < 2305843009213693951 := Hsh.of_lt _ _
theorem tagOf_len (x : Nat) : (tagOf x).length = 8 := by simp [tagOf]
theorem tag_len (k : Nat) (a b : List UInt8) : (tag k a b).length = 8 := tagOf_len _
theorem tagU_val (x i : Nat) : (tagU x i).toNat = x / 256 ^ i % 256 := by
  unfold tagU Hsh.byteOf
  rw [UInt8.toNat_ofNat']
  have := Nat.mod_lt (x / 256 ^ i) (show 0 < 256 by omega)
  omega
theorem tagOf_inj (x y : Nat) (hx : x < 18446744073709551616) (hy : y < 18446744073709551616) (h : tagOf x = tagOf y) : x = y := by
  have g : ∀ i, i < 8 → x / 256 ^ i % 256 = y / 256 ^ i % 256 := by
    intro i hi
    have e : (tagOf x)[i]? = (tagOf y)[i]? := by rw [h]
    unfold tagOf at e
    rw [List.getElem?_map, List.getElem?_map, List.getElem?_range hi] at e
    injection e with e
    rw [← tagU_val, ← tagU_val, e]
  have g0 := g 0 (by omega)
  have g1 := g 1 (by omega)
  have g2 := g 2 (by omega)
  have g3 := g 3 (by omega)
  have g4 := g 4 (by omega)
  have g5 := g 5 (by omega)
  have g6 := g 6 (by omega)
  have g7 := g 7 (by omega)
  simp only [Nat.reducePow, Nat.div_one] at g0 g1 g2 g3 g4 g5 g6 g7
  omega
theorem tag_mod (k k' : Nat) (a b : List UInt8) (h : k % Fld.P = k' % Fld.P) : tag k a b = tag k' a b := by
  unfold tag sum
  rw [Hsh.of_mod macLabel [k, alongs a, texts b] [k', alongs a, texts b] (by simp [h])]
theorem sum_key (k k' : Nat) (a b : List UInt8) : sum k a b = sum k' a b ↔ k % Fld.P = k' % Fld.P := Hsh.of_one macLabel [] [alongs a, texts b] k k'
theorem sum_along (k : Nat) (a a' b : List UInt8) : sum k a b = sum k a' b ↔ alongs a = alongs a' := by
  have h := Hsh.of_one macLabel [k] [texts b] (alongs a) (alongs a')
  rw [Fld.P_val, Nat.mod_eq_of_lt (alongs_lt a), Nat.mod_eq_of_lt (alongs_lt a')] at h
  exact h
theorem sum_text (k : Nat) (a b b' : List UInt8) : sum k a b = sum k a b' ↔ texts b = texts b' := by
  have h := Hsh.of_one macLabel [k, alongs a] [] (texts b) (texts b')
  rw [Fld.P_val, Nat.mod_eq_of_lt (texts_lt b), Nat.mod_eq_of_lt (texts_lt b')] at h
  exact h
theorem tag_key (k k' : Nat) (a b : List UInt8) : tag k a b = tag k' a b ↔ k % Fld.P = k' % Fld.P := by
  constructor
  · intro h
    exact (sum_key k k' a b).1 (tagOf_inj _ _ (Nat.lt_trans (sum_lt _ _ _) (by omega)) (Nat.lt_trans (sum_lt _ _ _) (by omega)) h)
  · exact tag_mod k k' a b
theorem tag_along (k : Nat) (a a' b : List UInt8) (h : tag k a b = tag k a' b) : alongs a = alongs a' :=
  (sum_along k a a' b).1 (tagOf_inj _ _ (Nat.lt_trans (sum_lt _ _ _) (by omega)) (Nat.lt_trans (sum_lt _ _ _) (by omega)) h)
theorem tag_text (k : Nat) (a b b' : List UInt8) (h : tag k a b = tag k a b') : texts b = texts b' :=
  (sum_text k a b b').1 (tagOf_inj _ _ (Nat.lt_trans (sum_lt _ _ _) (by omega)) (Nat.lt_trans (sum_lt _ _ _) (by omega)) h)
/-- Bytes that differ at one place alone have unlike sums. -/
theorem set_tell (label l : List UInt8) (i : Nat) (x : UInt8) (hi : i < l.length) (hx : x ≠ l[i]) : Hsh.bytes label l ≠ Hsh.bytes label (l.set i x) := by
  intro h
  have h2 := (Hsh.bytes_tell label l (l.set i x) (i / 7) (by rw [List.length_set]) (fun t ht => by
    rw [List.getElem?_set_ne (by intro e; subst e; exact ht rfl)])).1 h
  have h3 : (l.set i x)[i]? = some x := by rw [List.getElem?_set_self hi]
  rw [← h2, List.getElem?_eq_getElem hi] at h3
  injection h3 with h3
  exact hx h3.symm

/-! ### sealed and opened -/
theorem seal_len (k : Nat) (a t : List UInt8) : (put k a t).length = t.length + 8 := by
  unfold put
  rw [List.length_append, mask_len, tag_len]
theorem seal_body (k : Nat) (a t : List UInt8) : body (put k a t) = mask k t := by
  unfold body
  rw [seal_len, Nat.add_sub_cancel]
  unfold put
  rw [List.take_append_of_le_length (by rw [mask_len]; omega), List.take_of_length_le (by rw [mask_len]; omega)]
theorem seal_tail (k : Nat) (a t : List UInt8) : tail (put k a t) = tag k a (mask k t) := by
  unfold tail
  rw [seal_len, Nat.add_sub_cancel]
  unfold put
  rw [List.drop_append_of_le_length (by rw [mask_len]; omega), List.drop_of_length_le (by rw [mask_len]; omega), List.nil_append]
theorem body_tail (b : List UInt8) : body b ++ tail b = b := List.take_append_drop _ _
theorem opn_seal (k : Nat) (a t : List UInt8) : opn k a (put k a t) = (t, 0) := by
  unfold opn
  rw [if_neg (by rw [seal_len]; omega), if_pos (by rw [seal_tail, seal_body]), seal_body, mask_mask]
theorem opn_mod (k k' : Nat) (a b : List UInt8) (h : k % Fld.P = k' % Fld.P) : opn k a b = opn k' a b := by
  unfold opn
  rw [tag_mod k k' a _ h, mask_mod k k' _ h]
theorem opn_key (k k' : Nat) (a t : List UInt8) (h : k % Fld.P ≠ k' % Fld.P) : opn k' a (put k a t) = ([], 21) := by
  unfold opn
  rw [if_neg (by rw [seal_len]; omega), if_neg]
  rw [seal_tail, seal_body]
  exact fun e => h ((tag_key k k' a _).1 e)
theorem opn_short (k : Nat) (a b : List UInt8) (h : b.length < 8) : opn k a b = ([], 9) := if_pos h
theorem opn_err (k : Nat) (a b : List UInt8) : (opn k a b).2 = 0 ∨ ((opn k a b).2 ≠ 0 ∧ (opn k a b).1 = []) := by
  unfold opn
  split
  · exact .inr ⟨by decide, rfl⟩
  · split
    · exact .inl rfl
    · exact .inr ⟨by decide, rfl⟩
/-- Whatever is opened is sealed to the same bytes. -/
theorem seal_opn (k : Nat) (a b : List UInt8) (h : (opn k a b).2 = 0) : put k a (opn k a b).1 = b := by
  unfold opn at h ⊢
  split at h
  · cases h
  · rename_i h1
    split at h
    · rename_i h2
      rw [if_neg h1, if_pos h2]
      unfold put
      rw [mask_mask, ← h2, body_tail]
    · cases h
/-- One byte of what was sealed is another one. -/
theorem opn_turned (k : Nat) (a t : List UInt8) (i : Nat) (x : UInt8) (hi : i < (put k a t).length) (hx : x ≠ (put k a t)[i]) : opn k a ((put k a t).set i x) = ([], 21) := by
  have hl := seal_len k a t
  unfold opn
  rw [if_neg (by rw [List.length_set, hl]; omega), if_neg]
  intro e
  have hm : (mask k t).length = t.length := mask_len _ _
  unfold tail body at e
  rw [List.length_set, hl, Nat.add_sub_cancel] at e
  rcases Nat.lt_or_ge i t.length with hlt | hge
  · rw [List.drop_set_of_lt hlt, List.take_set] at e
    have e1 : (put k a t).drop t.length = tag k a (mask k t) := by have := seal_tail k a t; unfold tail at this; rw [hl, Nat.add_sub_cancel] at this; exact this
    have e2 : (put k a t).take t.length = mask k t := by have := seal_body k a t; unfold body at this; rw [hl, Nat.add_sub_cancel] at this; exact this
    rw [e1, e2] at e
    have hi2 : i < (mask k t).length := by omega
    refine set_tell textLabel (mask k t) i x hi2 (fun q => hx ?_) (tag_text k a _ _ e)
    rw [q]
    have : (put k a t)[i]? = (mask k t)[i]? := by unfold put; rw [List.getElem?_append_left hi2]
    rw [List.getElem?_eq_getElem hi, List.getElem?_eq_getElem hi2] at this
    injection this with this
    exact this.symm
  · rw [List.take_set_of_le hge] at e
    have e1 : (put k a t).drop t.length = tag k a (mask k t) := by have := seal_tail k a t; unfold tail at this; rw [hl, Nat.add_sub_cancel] at this; exact this
    have e2 : (put k a t).take t.length = mask k t := by have := seal_body k a t; unfold body at this; rw [hl, Nat.add_sub_cancel] at this; exact this
    rw [e2, ← e1] at e
    have g1 : ((put k a t).set i x)[i]? = some x := by rw [List.getElem?_set_self hi]
    have g2 : ((put k a t).set i x)[i]? = (put k a t)[i]? := by
      have q1 : (((put k a t).set i x).drop t.length)[i - t.length]? = ((put k a t).set i x)[i]? := by rw [List.getElem?_drop, show t.length + (i - t.length) = i by omega]
      have q2 : ((put k a t).drop t.length)[i - t.length]? = (put k a t)[i]? := by rw [List.getElem?_drop, show t.length + (i - t.length) = i by omega]
      rw [← q1, ← q2, e]
    rw [g1, List.getElem?_eq_getElem hi] at g2
    injection g2 with g2
    exact hx g2
/-- One byte of what goes along is another one. -/
theorem opn_along (k : Nat) (a t : List UInt8) (i : Nat) (x : UInt8) (hi : i < a.length) (hx : x ≠ a[i]) : opn k (a.set i x) (put k a t) = ([], 21) := by
  unfold opn
  rw [if_neg (by rw [seal_len]; omega), if_neg]
  rw [seal_tail, seal_body]
  exact fun e => set_tell alongLabel a i x hi hx (tag_along k _ _ _ e)
/-- A text that begins a longer one. -/
theorem seal_begins (k : Nat) (a t : List UInt8) (j : Nat) (hj : j ≤ t.length) : (put k a (t.take j)).take j = (put k a t).take j := by
  unfold put
  rw [List.take_append_of_le_length (by rw [mask_len, List.length_take]; omega), List.take_append_of_le_length (by rw [mask_len]; omega), mask_take, List.take_take, Nat.min_self]
/-- Two texts under one pad. -/
theorem seal_xor (k : Nat) (a a' t t' : List UInt8) (i : Nat) (h : i < t.length) (h' : i < t'.length) :
    ∃ x y, (put k a t)[i]? = some x ∧ (put k a' t')[i]? = some y ∧ x ^^^ y = t[i] ^^^ t'[i] := by
  refine ⟨_, _, by unfold put; rw [List.getElem?_append_left (by rw [mask_len]; exact h), mask_get k t i h], by unfold put; rw [List.getElem?_append_left (by rw [mask_len]; exact h'), mask_get k t' i h'], ?_⟩
  rw [UInt8.xor_assoc, UInt8.xor_comm (t'[i]) _, ← UInt8.xor_assoc (Hsh.streamU (key k) i), UInt8.xor_self, UInt8.zero_xor]
end Sl
end Go.Proofs.YtkicjjcangkneaaGreatDoor

/-
  Package seal: the closure that tells the pad, bytes that are masked by it, and the tag; what was there is left as it was. Keys of 64 bits, up to 2^20 bytes.
-/
namespace Go.Proofs.YtkicjjcangkneaaGreatDoor
open Go.RowKit

theorem Sl.below_new {w w' : World} {o : Obj} (h : Below (w.alloc o).heap.size (w.alloc o) w') : Below w.heap.size w w' :=
  ((Below.refl _ w).alloc (Nat.le_refl _) o).trans (h.mono (by simp))
theorem Sl.rd_blk {w : World} {g t : Nat} {cs : Array Value} {l : List Nat} (h : Blk w g t cs) (hc : cs = (u64s l).toArray) : Rd w.heap.size w (some ⟨g, 0, none⟩) (u64s l) := by
  subst hc
  exact Rd.of_blk h

theorem Sl.cell_set {w : World} {B j b o : Nat} {u v : Value} (hne : b ≠ B) (h : w.cell? ⟨b, o, none⟩ = some v) : (w.setCell ⟨B, j, none⟩ u).cell? ⟨b, o, none⟩ = some v :=
  (World.cell?_setCell_other _ _ _ _ (fun e => hne (by injection e with e1; exact e1.symm))).trans h

theorem secret_at (k B : Nat) (w : World) (hk : k < 18446744073709551616) (hB : Blk w B 25 #[.int .u64 (k : Int)]) :
    Calls Tryz.prog 157 #[.string ⟨#[115, 101, 97, 108]⟩, .slice (some ⟨B, 0, none⟩) 1 1] w fun e w' => e = .returned (.int .u64 (Sl.key k : Nat)) ∧ Below w.heap.size w w' :=
  secret_any ⟨#[115, 101, 97, 108]⟩ _ 1 1 [k] w (by decide) rfl (by omega) (by
    intro x hx
    rw [List.mem_singleton.1 hx]
    exact hk) (Sl.rd_blk hB rfl)

/-- What the closure has caught: the pad of a key. -/
def Pad (w : World) (p k n : Nat) : Prop :=
  ∃ g, p < w.heap.size ∧ g < w.heap.size ∧ w.cell? ⟨p, 0, none⟩ = some (.slice (some ⟨g, 0, none⟩) n n) ∧ Blk w g 5 (u8s (Sl.pad k n)).toArray
theorem Pad.below {w w' : World} {p k n : Nat} (h : Pad w p k n) (hb : Below w.heap.size w w') : Pad w' p k n := by
  obtain ⟨g, h1, h2, h3, h4⟩ := h
  have hs := hb.size
  exact ⟨g, by omega, by omega, (hb.cell (p := ⟨p, 0, none⟩) h1).trans h3, h4.below hb h2⟩

theorem pad_get (k n i : Nat) (h : i < n) : (u8s (Sl.pad k n)).toArray[i]? = some (.int .u8 ((Hsh.streamU (Sl.key k) i).toNat : Int)) := by
  simp [u8s, Sl.pad, Hsh.stream, h]

/-! ### bytes that are filled in one by one -/
/-- What a row of n bytes holds when the first j of xs are there. -/
def sta (xs : List UInt8) (n j : Nat) : Array Value := ((List.range n).map fun i => if i < j then Value.int .u8 (((xs[i]?.getD 0).toNat : Nat) : Int) else .int .u8 0).toArray
theorem sta_size (xs : List UInt8) (n j : Nat) : (sta xs n j).size = n := by simp [sta]
theorem sta_get (xs : List UInt8) (n j i : Nat) (h : i < n) : (sta xs n j)[i]? = some (if i < j then Value.int .u8 (((xs[i]?.getD 0).toNat : Nat) : Int) else .int .u8 0) := by
  simp [sta, h]
theorem sta_zero (xs : List UInt8) (n : Nat) : madeCells #[.int .u8 0] (n * 1) = sta xs n 0 := by
  apply Array.ext_getElem?
  intro i
  rcases Nat.lt_or_ge i n with h | h
  · rw [sta_get xs n 0 i h, if_neg (by omega)]
    simp [madeCells, h, Nat.mod_one]
  · rw [Array.getElem?_eq_none (xs := madeCells #[.int .u8 0] (n * 1)) (by simp [madeCells]; exact h), Array.getElem?_eq_none (by rw [sta_size]; exact h)]
theorem sta_set (xs : List UInt8) (n j : Nat) (hj : j < n) (x : UInt8) (hx : xs[j]? = some x) : (sta xs n j).setIfInBounds j (.int .u8 (x.toNat : Int)) = sta xs n (j + 1) := by
  apply Array.ext_getElem?
  intro i
  rw [Array.getElem?_setIfInBounds]
  rcases Nat.lt_or_ge i n with h | h
  · rw [sta_get xs n (j + 1) i h]
    by_cases e : j = i
    · subst e
      rw [if_pos rfl, if_pos (by rw [sta_size]; exact h), if_pos (by omega), hx]
      rfl
    · rw [if_neg e, sta_get xs n j i h]
      by_cases h1 : i < j
      · rw [if_pos h1, if_pos (by omega)]
      · rw [if_neg h1, if_neg (by omega)]
  · rw [Array.getElem?_eq_none (by rw [sta_size]; exact h), if_neg (by omega), Array.getElem?_eq_none (by rw [sta_size]; exact h)]
theorem sta_full (xs : List UInt8) (n : Nat) (hn : n = xs.length) : sta xs n n = (u8s xs).toArray := by
  apply Array.ext_getElem?
  intro i
  rcases Nat.lt_or_ge i n with h | h
  · rw [sta_get xs n n i h, if_pos h]
    simp [u8s, List.getElem?_eq_getElem (show i < xs.length by omega)]
  · rw [Array.getElem?_eq_none (by rw [sta_size]; exact h), Array.getElem?_eq_none (by simp [u8s]; omega)]
theorem make_sta (xs : List UInt8) (n : Nat) (hn : n ≤ 1048576) (W : World) :
    (Instr.makeSlice 28 (.int .i64 (n : Int)) (.int .i64 (n : Int))).run Tryz.prog W = .ok (.slice (some ⟨W.heap.size, 0, none⟩) n n) (W.alloc (.cells (sta xs n 0) 5)) := by
  obtain ⟨i0, hi, hz0, hz1, hz2⟩ := info_parts info_u8
  have h := run_make (P := Tryz.prog) W 28 5 i0 (.int .u8 0) Tryz.underlying28 hi hz0 .i64 .i64 (n : Int) (n : Int) (by omega) (by omega) (by rw [hz2]; omega) (by omega)
  rw [hz1] at h
  rw [h]
  simp only [Int.toNat_natCast]
  rw [show (Value.int IntKind.u8 0).cells = #[.int .u8 0] from rfl, sta_zero xs]

theorem u8_xor_is (a b : UInt8) : bits .xor .u8 ((a.toNat : Nat) : Int) ((b.toNat : Nat) : Int) = (((a ^^^ b).toNat : Nat) : Int) := by
  rw [u8_xor_nat _ _ a.toNat_lt b.toNat_lt, UInt8.toNat_xor]

/-! ### the tag -/
theorem of3_at (k x y B : Nat) (w : World) (hk : k < 18446744073709551616) (hx : x < 18446744073709551616) (hy : y < 18446744073709551616) (hB : Blk w B 25 #[.int .u64 (k : Int), .int .u64 (x : Int), .int .u64 (y : Int)]) :
    Calls Tryz.prog 132 #[.string ⟨#[109, 97, 99]⟩, .slice (some ⟨B, 0, none⟩) 3 3] w fun e w' => e = .returned (.int .u64 (Hsh.of Sl.macLabel [k, x, y] : Nat)) ∧ Below w.heap.size w w' :=
  of_any ⟨#[109, 97, 99]⟩ _ 3 3 [k, x, y] w (by decide) rfl (by omega) (by
    intro z hz
    simp only [List.mem_cons, List.not_mem_nil, or_false] at hz
    rcases hz with rfl | rfl | rfl <;> assumption) (Sl.rd_blk hB rfl)

theorem tagOf_get (x j : Nat) (hj : j < 8) : (Sl.tagOf x)[j]? = some (Sl.tagU x j) := by
  unfold Sl.tagOf
  rw [List.getElem?_map, List.getElem?_range hj]
  rfl

end Go.Proofs.YtkicjjcangkneaaGreatDoor

/-
  bytes.Equal, slices.Grow of the nil slice, slices.Concat of two slices of bytes: the library's own text is walked; what was there is left as it was. Up to 2^40 bytes.
-/
namespace Go.Proofs.YtkicjjcangkneaaGreatDoor
open Go.RowKit

theorem conv_rd (l : List UInt8) (A : Option Addr) (n c B : Nat) (W : World) (hn : n = l.length) (h : Rd B W A (u8s l)) :
    (convert 28 9 (.slice A n c)).run Tryz.prog W = .ok (.string ⟨l.toArray⟩) W := by
  rcases A with _ | a
  · have hl : l = [] := by
      cases l with
      | nil => rfl
      | cons x y =>
        obtain ⟨b, off, e, _⟩ := h (by simp [u8s])
        cases e
    subst hl
    subst hn
    exact run_convert_bytes_nil (P := Tryz.prog) (w := W) 28 5 Tryz.underlying28 Tryz.underlying5 0 c 9 Tryz.underlying9
  · rw [hn]
    refine run_convert_bytes_back (P := Tryz.prog) W 28 9 5 a c l Tryz.underlying28 Tryz.underlying5 Tryz.underlying9 fun j hj => ?_
    obtain ⟨b, off, e, _, hcl⟩ := byte_cell h hj
    injection e with e
    subst e
    rw [Addr.add_lit]
    exact hcl

theorem arr_eq (xs ys : List UInt8) : ((⟨xs.toArray⟩ : ByteArray).toList == (⟨ys.toArray⟩ : ByteArray).toList) = decide (xs = ys) := by
  rw [ByteArray.toList_eq, ByteArray.toList_eq]
  by_cases h : xs = ys
  · subst h; simp
  · rw [decide_eq_false h]
    simpa using h

set_option maxRecDepth 100000 in
set_option maxHeartbeats 1000000 in
theorem equal_any (xs ys : List UInt8) (A A' : Option Addr) (n c n' c' : Nat) (w : World) (hn : n = xs.length) (hn' : n' = ys.length) (hA : Rd w.heap.size w A (u8s xs)) (hA' : Rd w.heap.size w A' (u8s ys)) :
    Calls Tryz.prog 83 #[.slice A n c, .slice A' n' c'] w fun e w' => e = .returned (.bool (decide (xs = ys))) ∧ Below w.heap.size w w' := by
  have h1 := conv_rd xs A n c _ w hn hA
  have h2 := conv_rd ys A' n' c' _ w hn' hA'
  have h3 := arr_eq xs ys
  obtain ⟨s, hs⟩ : ∃ s : ByteArray, s = ⟨xs.toArray⟩ := ⟨_, rfl⟩
  obtain ⟨t, ht⟩ : ∃ t : ByteArray, t = ⟨ys.toArray⟩ := ⟨_, rfl⟩
  obtain ⟨r, hr⟩ : ∃ r : Bool, r = decide (xs = ys) := ⟨_, rfl⟩
  rw [← hs] at h1 h3
  rw [← ht] at h2 h3
  rw [← hr] at h3 ⊢
  have H3 := Lib.hid h3
  clear hs ht hr hn hn' hA hA' h3
  go_enter Tryz.func83, Tryz.ntmps83
  go_wp2
  go_ret
  exact ⟨by rw [← H3.out]; rfl, Below.refl _ _⟩

end Go.Proofs.YtkicjjcangkneaaGreatDoor

/-
  slices.Concat of two slices of bytes: the library's own text is walked: one behind the other, in memory of its own; what was there is left as it was. Up to 2^39 bytes each, the second one not empty.
-/
namespace Go.Proofs.YtkicjjcangkneaaGreatDoor
open Go.RowKit

theorem src_rd {l : List UInt8} {a : Addr} {B : Nat} {w : World} (h : Rd B w (some a) (u8s l)) : ∀ j u, (u8s l)[j]? = some u → w.cell? (a.add j) = some u := by
  intro j u hu
  have hl : 0 < (u8s l).length := by
    cases hx : u8s l with
    | nil => rw [hx] at hu; cases hu
    | cons x y => simp
  obtain ⟨b, off, e, _, hc⟩ := h hl
  injection e with e
  subst e
  rw [Addr.add_lit]
  exact hc j u hu
theorem u8s_one (l : List UInt8) : ∀ u ∈ u8s l, u.oneCell' = true := by
  intro u hu
  obtain ⟨x, _, rfl⟩ := List.mem_map.1 hu
  rfl
theorem u8s_app (l l' : List UInt8) : u8s (l ++ l') = u8s l ++ u8s l' := by simp [u8s]

end Go.Proofs.YtkicjjcangkneaaGreatDoor

/-
  Package seal: Seal and Open tell what the document says; what was there is left as it was. Keys of 64 bits, along of up to 2^30 bytes, texts of up to 2^20.
-/
namespace Go.Proofs.YtkicjjcangkneaaGreatDoor
open Go.RowKit

/-- A slice of bytes that can be read. -/
structure Bt (w : World) (A : Option Addr) (n c : Nat) (l : List UInt8) : Prop where
  len : n = l.length
  cap : n ≤ c
  nil : A = none → c = 0
  rd : Rd w.heap.size w A (u8s l)
theorem Bt.below {w w' : World} {A : Option Addr} {n c : Nat} {l : List UInt8} (h : Bt w A n c l) (hb : Below w.heap.size w w') : Bt w' A n c l :=
  ⟨h.len, h.cap, h.nil, (h.rd.below hb).more hb.size⟩
theorem Bt.new {w : World} {A : Option Addr} {n c : Nat} {l : List UInt8} (h : Bt w A n c l) (o : Obj) : Bt (w.alloc o) A n c l := h.below ((Below.refl _ w).alloc (Nat.le_refl _) _)
theorem Bt.take {w : World} {A : Option Addr} {n c : Nat} {l : List UInt8} (h : Bt w A n c l) {k : Nat} (hk : k ≤ n) : Bt w A k c (l.take k) :=
  ⟨by rw [List.length_take, ← h.len]; omega, Nat.le_trans hk h.cap, h.nil, by rw [← u8s_take]; exact h.rd.take k⟩
theorem Rd.drop {B : Nat} {w : World} {g off : Nat} {vs : List Value} (h : Rd B w (some ⟨g, off, none⟩) vs) (k : Nat) : Rd B w (some ⟨g, off + k, none⟩) (vs.drop k) := fun hp => by
  rw [List.length_drop] at hp
  obtain ⟨b, off', e, hlt, hc⟩ := h (by omega)
  injection e with e
  injection e with e1 e2
  subst e1 e2
  refine ⟨_, _, rfl, hlt, fun i u hu => ?_⟩
  rw [List.getElem?_drop] at hu
  rw [Nat.add_assoc]
  exact hc (k + i) u hu
theorem Bt.spot {w : World} {A : Option Addr} {n c : Nat} {l : List UInt8} (h : Bt w A n c l) (hn : 0 < n) : ∃ g off, A = some ⟨g, off, none⟩ := by
  obtain ⟨b, off, e, _⟩ := h.rd (by rw [u8s_len, ← h.len]; exact hn)
  exact ⟨b, off, e⟩
theorem Bt.drop {w : World} {g off n c : Nat} {l : List UInt8} (h : Bt w (some ⟨g, off, none⟩) n c l) {k : Nat} (hk : k ≤ n) : Bt w (some ⟨g, off + k, none⟩) (n - k) (c - k) (l.drop k) :=
  ⟨by rw [List.length_drop, ← h.len], by have := h.cap; omega, fun e => (by cases e), by
    have := h.rd.drop k
    unfold u8s at this ⊢
    rw [List.map_drop]
    exact this⟩
theorem Bt.of_blk {w : World} {g n : Nat} {l : List UInt8} (h : Blk w g 5 (u8s l).toArray) (hn : n = l.length) : Bt w (some ⟨g, 0, none⟩) n n l :=
  ⟨hn, Nat.le_refl _, fun e => (by cases e), Rd.of_blk h⟩
theorem own_cap {w : World} {B e s n m c : Nat} {A : Option Addr} {xs : List Value} (h : w.ownsRow B e s (.slice A n c) m xs) : m ≤ c ∧ (A = none → c = 0) := by
  rcases h.2 with ⟨h1, rfl⟩ | ⟨g, cap, cur, h1, _, _, h2, _⟩
  · injection h1 with e1 e2 e3
    subst e1 e3
    exact ⟨Nat.le_refl _, fun _ => rfl⟩
  · injection h1 with e1 e2 e3
    subst e3 e1
    exact ⟨h2, fun e => by cases e⟩
theorem Bt.of_own {w : World} {B n c : Nat} {A : Option Addr} {l : List UInt8} (h : w.ownsRow B 5 1 (.slice A n c) n (u8s l)) : Bt w A n c l :=
  ⟨by have := h.1; rw [u8s_len] at this; omega, (own_cap h).1, (own_cap h).2, Rd.of_own h⟩
theorem own_base {w : World} {B B' e s n : Nat} {v : Value} {xs : List Value} (h : w.ownsRow B e s v n xs) (hB : B' ≤ B) : w.ownsRow B' e s v n xs := by
  refine ⟨h.1, ?_⟩
  rcases h.2 with h | ⟨g, cp, cur, e1, e2, e3⟩
  · exact .inl h
  · exact .inr ⟨g, cp, cur, e1, Nat.le_trans hB e2, e3⟩
theorem slice_from (g off n c k : Nat) (hk : k ≤ n) (hc : k < c) (W : World) :
    (Instr.slice 28 (.slice (some ⟨g, off, none⟩) n c) (some (.int .i64 (k : Int))) none none).run Tryz.prog W = .ok (.slice (some ⟨g, off + k, none⟩) (n - k) (c - k)) W := by
  have hz : (sizeOf (Tryz.prog.elem 28)).run Tryz.prog W = .ok 1 W := by kernel_rfl
  have h := run_slice_l (P := Tryz.prog) W 28 (some ⟨g, off, none⟩) n c (by kernel_rfl) .i64 (k : Int) (by omega) (by omega)
  rw [h, hz]
  simp only [Result.andThen, sliced, Int.toNat_natCast]
  rw [if_neg (by omega)]
  simp
  exact Addr.add_lit _ _ _

theorem opn_ok (k : Nat) (a b : List UInt8) (m : Nat) (hm : m + 8 = b.length) (h : b.drop m = Sl.tag k a (b.take m)) : Sl.opn k a b = (Sl.mask k (b.take m), 0) := by
  obtain rfl : m = b.length - 8 := by omega
  unfold Sl.opn Sl.tail Sl.body
  rw [if_neg (by omega), if_pos h]
theorem opn_bad (k : Nat) (a b : List UInt8) (m : Nat) (hm : m + 8 = b.length) (h : b.drop m ≠ Sl.tag k a (b.take m)) : Sl.opn k a b = ([], 21) := by
  obtain rfl : m = b.length - 8 := by omega
  unfold Sl.opn Sl.tail Sl.body
  rw [if_neg (by omega), if_neg h]

/-- What Open tells. -/
def Opn (e : Ending) (w' : World) (r : List UInt8 × Nat) : Prop := ∃ A n c, e = .returned (.tuple #[.slice A n c, .int .i64 (r.2 : Nat)]) ∧ Bt w' A n c r.1
theorem Bt.empty (w : World) : Bt w none 0 0 [] := ⟨rfl, Nat.le_refl _, fun _ => rfl, Rd.nil⟩

end Go.Proofs.YtkicjjcangkneaaGreatDoor

/-
  Signatures as numbers: what is signed, what is asked, and which signatures are taken; a digit of a long division (Knuth's). No program, no condition but what is said.
-/
namespace Go.Proofs.YtkicjjcangkneaaGreatDoor
open Go.RowKit

namespace Sg
def N : Nat := 2305843009213693950
def msg (l : List UInt8) : Nat := Hsh.bytes [115, 105, 103, 110, 101, 100] l
def ask (r t m : Nat) : Nat := Hsh.of [115, 105, 103] [r, t, m]
def once (s m : Nat) : Nat := Hsh.secret [110, 111, 110, 99, 101] [s, m]
/-- What is signed: R and S, of a secret and the sum of bytes. -/
def R (s m : Nat) : Nat := Fld.pow 37 (once s m)
def ans (o e s : Nat) : Nat := (o + e * s % 2305843009213693950) % 2305843009213693950
def S (s m : Nat) : Nat := ans (once s m) (ask (R s m) (Bx.pub s) m) s
/-- The numbers of a public key and a signature are of their range. -/
def Rng (t r s : Nat) : Prop := 1 ≤ t ∧ t < 2305843009213693951 ∧ 1 ≤ r ∧ r < 2305843009213693951 ∧ s < 2305843009213693950
/-- The equation of a signature. -/
def Eqn (t m r s : Nat) : Prop := Fld.pow 37 s = Fld.mul r (Fld.pow t (ask r t m))
def Ok (t m r s : Nat) : Prop := Rng t r s ∧ Eqn t m r s
instance (t r s : Nat) : Decidable (Rng t r s) := by unfold Rng; infer_instance
instance (t m r s : Nat) : Decidable (Eqn t m r s) := by unfold Eqn; infer_instance
instance (t m r s : Nat) : Decidable (Ok t m r s) := by unfold Ok; infer_instance
/-- What Check tells. -/
def chk (t m r s : Nat) : Bool := decide (Ok t m r s)

theorem msg_lt (l : List UInt8) : msg l < 2305843009213693951 := Hsh.of_lt _ _
theorem ask_lt (r t m : Nat) : ask r t m < 2305843009213693951 := Hsh.of_lt _ _
theorem once_range (s m : Nat) : 1 ≤ once s m ∧ once s m ≤ 2305843009213693949 := Hsh.secret_range _ _
theorem R_lt (s m : Nat) : R s m < 2305843009213693951 := Fld.pow_lt _ _
theorem ans_lt (o e s : Nat) : ans o e s < 2305843009213693950 := Nat.mod_lt _ (by omega)
theorem S_lt (s m : Nat) : S s m < 2305843009213693950 := ans_lt _ _ _
theorem pow37_add (a c : Nat) : Fld.pow 37 (a + c) = Fld.mul (Fld.pow 37 a) (Fld.pow 37 c) := (Bx.pub_add a c).symm
theorem pub_pow (s e : Nat) : Fld.pow (Bx.pub s) e = Fld.pow 37 (e * s) := by
  unfold Bx.pub Fld.pow
  rw [← Nat.pow_mod, ← Nat.pow_mul, Nat.mul_comm]
/-- Right ones are taken. -/
theorem eqn_ans (s m o : Nat) : Eqn (Bx.pub s) m (Fld.pow 37 o) (ans o (ask (Fld.pow 37 o) (Bx.pub s) m) s) := by
  unfold Eqn
  obtain ⟨e, he⟩ : ∃ e, e = ask (Fld.pow 37 o) (Bx.pub s) m := ⟨_, rfl⟩
  rw [← he, pub_pow]
  unfold ans
  rw [Bx.pub_mod, pow37_add, Bx.pub_mod]
theorem ok_sign (s m : Nat) : Ok (Bx.pub s) m (R s m) (S s m) := by
  refine ⟨⟨?_, Bx.pub_lt s, ?_, R_lt s m, S_lt s m⟩, ?_⟩
  · have := Bx.pub_ne s; omega
  · have := Bx.pub_ne (once s m)
    have e : R s m = Bx.pub (once s m) := rfl
    omega
  · exact eqn_ans s m (once s m)
theorem chk_sign (s m : Nat) : chk (Bx.pub s) m (R s m) (S s m) = true := decide_eq_true (ok_sign s m)
/-- One S. -/
theorem ok_same {t m r s s' : Nat} (h : Ok t m r s) (h' : Ok t m r s') : Fld.pow 37 s = Fld.pow 37 s' := h.2.trans h'.2.symm
theorem ok_one {t m r s s' : Nat} (h : Ok t m r s) (h' : Ok t m r s') : s = s' := by
  have h1 := h.1.2.2.2.2
  have h2 := h'.1.2.2.2.2
  exact Fld.pow_inj s s' h1 h2 (ok_same h h')
theorem chk_next (s m : Nat) : chk (Bx.pub s) m (R s m) ((S s m + 1) % 2305843009213693950) = false := by
  refine decide_eq_false fun h => ?_
  have h1 := ok_one (ok_sign s m) h
  have h2 := S_lt s m
  omega
theorem chk_not {t m r s : Nat} (h : ¬ Rng t r s) : chk t m r s = false := decide_eq_false fun k => h k.1
theorem chk_eqn {t m r s : Nat} (h : Rng t r s) : chk t m r s = decide (Eqn t m r s) := by
  unfold chk
  by_cases k : Eqn t m r s
  · rw [decide_eq_true k, decide_eq_true (show Ok t m r s from ⟨h, k⟩)]
  · rw [decide_eq_false k, decide_eq_false (show ¬ Ok t m r s from fun q => k q.2)]

/-! ### a digit of a long division -/
/-- What the loop keeps: of a number U, a digit u, a divisor c, d: the guess and what it leaves. -/
structure Kn (U u c d q r : Nat) : Prop where
  sum : q * c + r = U
  big : U * 4294967296 + u < (q + 1) * (c * 4294967296 + d)
theorem Kn.start (U u c d : Nat) (hc : 0 < c) (hu : u < 4294967296) : Kn U u c d (U / c) (U % c) := by
  refine ⟨by rw [Nat.mul_comm]; exact Nat.div_add_mod U c, ?_⟩
  have h1 : U < (U / c + 1) * c := by
    have := Nat.div_add_mod U c
    have h2 := Nat.mod_lt U hc
    rw [Nat.add_mul, Nat.one_mul, Nat.mul_comm]; omega
  have h2 : (U + 1) * 4294967296 ≤ (U / c + 1) * c * 4294967296 := Nat.mul_le_mul_right _ h1
  have h3 : (U / c + 1) * (c * 4294967296 + d) = (U / c + 1) * c * 4294967296 + (U / c + 1) * d := by rw [Nat.mul_add, Nat.mul_assoc]
  omega
/-- The guess is too great: one less. -/
theorem Kn.less {U u c d q r : Nat} (h : Kn U u c d q r) (hU : U < c * 4294967296 + d) (hu : u < 4294967296) (hg : 4294967296 ≤ q ∨ 4294967296 * r + u < q * d) : 0 < q ∧ Kn U u c d (q - 1) (r + c) := by
  have hq : 0 < q := by
    rcases hg with h1 | h1
    · omega
    · by_cases h0 : q = 0
      · subst h0; omega
      · omega
  refine ⟨hq, ?_, ?_⟩
  · have := h.sum
    obtain ⟨k, rfl⟩ : ∃ k, q = k + 1 := ⟨q - 1, by omega⟩
    rw [Nat.add_sub_cancel]
    rw [Nat.add_mul, Nat.one_mul] at this
    omega
  · rw [Nat.sub_add_cancel hq]
    rcases hg with h1 | h1
    · have h2 : 4294967296 * (c * 4294967296 + d) ≤ q * (c * 4294967296 + d) := Nat.mul_le_mul_right _ h1
      omega
    · have h2 : q * (c * 4294967296 + d) = q * c * 4294967296 + q * d := by rw [Nat.mul_add, Nat.mul_assoc]
      have := h.sum
      have h3 : (q * c + r) * 4294967296 + u = U * 4294967296 + u := by rw [this]
      rw [Nat.add_mul] at h3
      omega
theorem mod_of {A Y q : Nat} (h2 : q * Y ≤ A) (h4 : A < (q + 1) * Y) : A - q * Y = A % Y := by
  rw [Nat.add_mul, Nat.one_mul] at h4
  have h7 : A - q * Y < Y := by omega
  have h6 : A = (A - q * Y) + q * Y := (Nat.sub_add_cancel h2).symm
  generalize A - q * Y = z at h7 h6 ⊢
  rw [h6, Nat.add_mul_mod_self_right, Nat.mod_eq_of_lt h7]
/-- The guess is right: what is left. -/
theorem Kn.done {U u c d q r : Nat} (h : Kn U u c d q r) (hg : q * d ≤ 4294967296 * r + u) :
    q * (c * 4294967296 + d) ≤ U * 4294967296 + u ∧ U * 4294967296 + u - q * (c * 4294967296 + d) = (U * 4294967296 + u) % (c * 4294967296 + d) := by
  have h1 : q * (c * 4294967296 + d) = q * c * 4294967296 + q * d := by rw [Nat.mul_add, Nat.mul_assoc]
  have h3 : (q * c + r) * 4294967296 + u = U * 4294967296 + u := by rw [h.sum]
  rw [Nat.add_mul] at h3
  have h2 : q * (c * 4294967296 + d) ≤ U * 4294967296 + u := by omega
  refine ⟨h2, ?_⟩
  exact mod_of h2 h.big
theorem Kn.over {U u c d q r : Nat} (_ : Kn U u c d q r) (hd : d < 4294967296) (hq : q ≤ 4294967296) (hr : 4294967296 ≤ r) : q * d ≤ 4294967296 * r + u := by
  have h1 : ∀ b : Nat, q ≤ b → q * d ≤ b * d := fun b h => Nat.mul_le_mul_right _ h
  have h2 := h1 4294967296 hq
  omega
end Sg

end Go.Proofs.YtkicjjcangkneaaGreatDoor

/-
  The library's long division of two words by one, for the two moduli that package sign has: what is left is what the natural numbers leave. The divisor is 2^61 - 1 or 2^61 - 2, the upper word is less than it.
-/
namespace Go.Proofs.YtkicjjcangkneaaGreatDoor
open Go.RowKit

set_option maxRecDepth 100000 in
set_option maxHeartbeats 1000000 in
theorem len_mod (y : Nat) (w : World) (hy : 2305843009213693950 ≤ y ∧ y ≤ 2305843009213693951) : Calls Tryz.prog 225 #[.int .u64 (y : Int)] w fun e w' => e = .returned (.int .i64 61) ∧ w = w' := by
  have h : y = 2305843009213693950 ∨ y = 2305843009213693951 := by omega
  rcases h with rfl | rfl
  · rw [show ((2305843009213693950 : Nat) : Int) = 2305843009213693950 from rfl]
    clear hy
    go_enter Tryz.func225, Tryz.ntmps225
    go_wp2
    go_ret
    exact ⟨by kernel_rfl, rfl⟩
  · rw [show ((2305843009213693951 : Nat) : Int) = 2305843009213693951 from rfl]
    clear hy
    go_enter Tryz.func225, Tryz.ntmps225
    go_wp2
    go_ret
    exact ⟨by kernel_rfl, rfl⟩

theorem zeros_mod (y : Nat) (w : World) (hy : 2305843009213693950 ≤ y ∧ y ≤ 2305843009213693951) : Calls Tryz.prog 223 #[.int .u64 (y : Int)] w fun e w' => e = .returned (.int .i64 3) ∧ w = w' := by
  have H := Lib.hid (len_mod y w hy)
  clear hy
  go_enter Tryz.func223, Tryz.ntmps223
  go_wp2_with fail
  refine (H.out).mono ?_
  rintro e w' ⟨rfl, rfl⟩
  go_wp2
  go_ret
  exact ⟨rfl, rfl⟩

/-- What the division leaves. -/
def Lft (e : Ending) (r : Nat) : Prop := ∃ q : Nat, e = .returned (.tuple #[.int .u64 (q : Int), .int .u64 (r : Nat)])

set_option maxRecDepth 100000 in
set_option maxHeartbeats 1000000 in
theorem div_small (lo y : Nat) (w : World) (hy : 2305843009213693950 ≤ y ∧ y ≤ 2305843009213693951) (hlo : lo < 18446744073709551616) :
    Calls Tryz.prog 221 #[.int .u64 0, .int .u64 (lo : Int), .int .u64 (y : Int)] w fun e w' => Lft e (lo % y) ∧ Below w.heap.size w w' := by
  obtain ⟨q, hq⟩ : ∃ q : Nat, q = lo / y := ⟨_, rfl⟩
  obtain ⟨r, hr⟩ : ∃ r : Nat, r = lo % y := ⟨_, rfl⟩
  rw [← hr]
  have h1 : (lo : Int) / (y : Int) = (q : Int) := by rw [hq]; exact (Int.natCast_ediv lo y).symm
  have h2 : (lo : Int) % (y : Int) = (r : Int) := by rw [hr]; exact (Int.natCast_emod lo y).symm
  have h3 : ¬ (y : Int) = 0 := by omega
  have h4 : (lo : Int).tdiv (y : Int) = (q : Int) := by rw [Int.tdiv_eq_ediv_of_nonneg (by omega)]; exact h1
  have h5 : (lo : Int).tmod (y : Int) = (r : Int) := by rw [Int.tmod_eq_emod_of_nonneg (by omega)]; exact h2
  have h6 : 0 < y := by omega
  have h7 : q < 18446744073709551616 := by rw [hq]; exact Nat.lt_of_le_of_lt (Nat.div_le_self _ _) hlo
  clear hq hr hy
  go_enter Tryz.func221, Tryz.ntmps221
  go_wp2
  go_region
  go_wp2
  go_ret2
  exact ⟨⟨q, rfl⟩, below_drewN (Below.refl _ _) 1⟩


/-! ### pure facts for the walk: a digit's guess, in the machine's words -/
/-- The digit is right: what it leaves is n. -/
def Gd (U u Y q n : Nat) : Prop := q * Y ≤ U * 4294967296 + u ∧ U * 4294967296 + u - q * Y = n
theorem prod_lt (q d : Nat) (hq : q < 4294967296) (hd : d < 4294967296) : q * d < 18446744073709551616 := by
  have h := Nat.mul_le_mul (Nat.le_pred_of_lt hq) (Nat.le_pred_of_lt hd)
  have h2 : q * d ≤ 4294967295 * 4294967295 := h
  omega
theorem or61 (hi lo : Nat) (hhi : hi < 2305843009213693952) (hlo : lo < 18446744073709551616) :
    bits .or .u64 ((hi * 8 : Nat) : Int) ((lo / 2305843009213693952 : Nat) : Int) = ((hi * 8 + lo / 2305843009213693952 : Nat) : Int) := by
  rw [bits_or_u64_nat _ _ (by omega) (by omega)]
  have h3 : hi * 8 ||| lo / 2305843009213693952 = hi * 8 + lo / 2305843009213693952 := by
    have := Nat.shiftLeft_add_eq_or_of_lt (b := lo / 2305843009213693952) (i := 3) (by omega) hi
    rw [Nat.shiftLeft_eq] at this
    exact this.symm
  rw [h3]
/-- What is left, in words of 64 bits. -/
theorem left_wrap (U u Y q n a p : Nat) (hq : q * Y ≤ U * 4294967296 + u) (hn : U * 4294967296 + u - q * Y = n) (hl : n < 18446744073709551616)
    (ha : a = U * 4294967296 % 18446744073709551616) (hp : p = q * Y % 18446744073709551616) : IntKind.u64.wrap ((a : Int) + (u : Int) - (p : Int)) = (n : Int) := by
  generalize q * Y = m at hq hn hp
  rw [IntKind.wrap_u64]
  omega
theorem guess_lt (q Y U u : Nat) (hU : U < Y) (hu : u < 4294967296) (h : q * Y ≤ U * 4294967296 + u) : q < 4294967296 := by
  have h1 : ∀ b : Nat, U + 1 ≤ Y → (U + 1) * b ≤ Y * b := fun b h => Nat.mul_le_mul_right _ h
  have h2 := h1 4294967296 hU
  have h3 : q * Y < 4294967296 * Y := by omega
  exact Nat.lt_of_mul_lt_mul_right h3
/-- Both digits: what is left of the number that was moved up. -/
theorem digits (hi lo y U V u1 u0 n1 n0 : Nat) (h1 : U = hi * 8 + lo / 2305843009213693952) (h2 : V = lo * 8 % 18446744073709551616) (h3 : u1 = V / 4294967296) (h4 : u0 = V % 4294967296)
    (h5 : n1 = (U * 4294967296 + u1) % (y * 8)) (h6 : n0 = (n1 * 4294967296 + u0) % (y * 8)) : n0 / 8 = (hi * 18446744073709551616 + lo) % y := by
  have e1 : n0 = ((U * 4294967296 + u1) * 4294967296 + u0) % (y * 8) := by
    rw [h6, h5, Nat.add_mod, Nat.mul_mod, Nat.mod_mod, ← Nat.mul_mod, ← Nat.add_mod]
  have e2 : (U * 4294967296 + u1) * 4294967296 + u0 = (hi * 18446744073709551616 + lo) * 8 := by omega
  rw [e1, e2, Nat.mul_mod_mul_right]
  omega

set_option maxRecDepth 100000 in
set_option maxHeartbeats 2000000 in
theorem div_great (hi lo y : Nat) (w : World) (hy : 2305843009213693950 ≤ y ∧ y ≤ 2305843009213693951) (h0 : 0 < hi) (hhi : hi < y) (hlo : lo < 18446744073709551616) :
    Calls Tryz.prog 221 #[.int .u64 (hi : Int), .int .u64 (lo : Int), .int .u64 (y : Int)] w fun e w' => Lft e ((hi * 18446744073709551616 + lo) % y) ∧ w = w' := by
  have HZ := Lib.hid (fun W => zeros_mod y W hy)
  obtain ⟨Y, eY⟩ : ∃ Y : Nat, Y = y * 8 := ⟨_, rfl⟩
  obtain ⟨d, ed⟩ : ∃ d : Nat, d = Y % 4294967296 := ⟨_, rfl⟩
  obtain ⟨A, eA⟩ : ∃ A : Nat, A = hi * 8 := ⟨_, rfl⟩
  obtain ⟨B, eB⟩ : ∃ B : Nat, B = lo / 2305843009213693952 := ⟨_, rfl⟩
  obtain ⟨U, eU⟩ : ∃ U : Nat, U = hi * 8 + lo / 2305843009213693952 := ⟨_, rfl⟩
  obtain ⟨V, eV⟩ : ∃ V : Nat, V = lo * 8 % 18446744073709551616 := ⟨_, rfl⟩
  obtain ⟨u1, e1⟩ : ∃ u1 : Nat, u1 = V / 4294967296 := ⟨_, rfl⟩
  obtain ⟨u0, e0⟩ : ∃ u0 : Nat, u0 = V % 4294967296 := ⟨_, rfl⟩
  obtain ⟨q0, eq0⟩ : ∃ q0 : Nat, q0 = U / 4294967295 := ⟨_, rfl⟩
  obtain ⟨r0, er0⟩ : ∃ r0 : Nat, r0 = U % 4294967295 := ⟨_, rfl⟩
  have b1 : 0 < y := by omega
  have b2 : y < 2305843009213693952 := by omega
  have b3 : Y < 18446744073709551616 := by omega
  have b4 : d < 4294967296 := by omega
  have b5 : U < 18446744073709551616 := by omega
  have b6 : V < 18446744073709551616 := by omega
  have b7 : u1 < 4294967296 := by omega
  have b8 : u0 < 4294967296 := by omega
  have b9 : q0 ≤ 4294967297 := by omega
  have b10 : r0 < 4294967295 := by omega
  have b11 : U < Y := by omega
  have b12 : 0 < Y := by omega
  have g1 : (y : Int) * 8 = (Y : Int) := by omega
  have g2 : (Y : Int) / 4294967296 = 4294967295 := by omega
  have g3 : bits .and .u64 (Y : Int) 4294967295 = (d : Int) := by rw [M64.maskN Y b3, ← ed]
  have g4 : (hi : Int) * 8 = (A : Int) := by omega
  have g5 : (lo : Int) / 2305843009213693952 = (B : Int) := by omega
  have g6 : bits .or .u64 (A : Int) (B : Int) = (U : Int) := by rw [eA, eB, eU]; exact or61 hi lo (by omega) hlo
  have g7 : IntKind.u64.wrap ((lo : Int) * 8) = (V : Int) := by rw [IntKind.wrap_u64]; omega
  have g8 : (V : Int) / 4294967296 = (u1 : Int) := by omega
  have g9 : bits .and .u64 (V : Int) 4294967295 = (u0 : Int) := by rw [M64.maskN V b6, ← e0]
  have g10 : (U : Int) / 4294967295 = (q0 : Int) := by omega
  have g11 : (U : Int) - (q0 : Int) * 4294967295 = (r0 : Int) := by omega
  have EY : Hid (4294967295 * 4294967296 + d = Y) := Lib.hid (by omega)
  have K0 : Hid (Sg.Kn U u1 4294967295 d q0 r0) := Lib.hid (by rw [eq0, er0]; exact Sg.Kn.start U u1 4294967295 d (by omega) b7)
  obtain ⟨n1, en1⟩ : ∃ n1 : Nat, n1 = (U * 4294967296 + u1) % Y := ⟨_, rfl⟩
  have b13 : n1 < Y := by rw [en1]; exact Nat.mod_lt _ b12
  have EN1 := Lib.hid en1
  obtain ⟨z, ez⟩ : ∃ z : Nat, z = (hi * 18446744073709551616 + lo) % y := ⟨_, rfl⟩
  rw [← ez]
  have ED : Hid (∀ n0 : Nat, n0 = (n1 * 4294967296 + u0) % Y → n0 / 8 = z) := Lib.hid (fun n0 h => ez ▸ digits hi lo y U V u1 u0 n1 n0 eU eV e1 e0 (by rw [← eY]; exact en1) (by rw [← eY]; exact h))
  have HH := Lib.hid hhi
  have b14 : A < 18446744073709551616 := by omega
  have b15 : ¬ y ≤ hi := by omega
  clear ez hy eY ed eA eB eU eV e1 e0 eq0 er0 en1
  go_enter Tryz.func221, Tryz.ntmps221
  go_wp2_with fail
  refine (HZ.out _).mono ?_
  rintro e w' ⟨rfl, rfl⟩
  have HD1 : Hid (∀ q r : Nat, Sg.Kn U u1 4294967295 d q r → q * d ≤ 4294967296 * r + u1 → Gd U u1 Y q n1) := Lib.hid (fun q r hk hg => by
    have h := Sg.Kn.done hk hg
    rw [EY.out] at h
    exact ⟨h.1, h.2.trans EN1.out.symm⟩)
  go_upto_block 0 with (fail)
  go_cut [15] (fun s wx => w = wx ∧ ∃ q : Nat, s = .int .u64 q ∧ Gd U u1 Y q n1)
  case first =>
    go_wp2_with fail
    go_loop [15, 16] (fun sq sr => ∃ q r : Nat, sq = .int .u64 q ∧ sr = .int .u64 r ∧ Sg.Kn U u1 4294967295 d q r ∧ q ≤ 4294967297 ∧ r < 4294967296) (fun sq _ => (intOf sq).toNat)
    case atStart => exact ⟨q0, r0, rfl, rfl, K0.out, by omega, by omega⟩
    case round =>
      obtain ⟨q, r, rfl, rfl, hk, hq, hr⟩ := hrel
      have HK0 := Lib.hid hk
      clear hk
      by_cases h1 : 4294967296 ≤ q
      · have hb1 : decide ((4294967296 : Int) ≤ (q : Int)) = true := decide_eq_true (by omega)
        have hl := Sg.Kn.less HK0.out (by rw [EY.out]; omega) (by omega) (.inl h1)
        have hq0 := hl.1
        have HK := Lib.hid hl.2
        clear hl h1 HK0
        obtain ⟨q2, hq2⟩ : ∃ q2 : Nat, q2 = q - 1 := ⟨_, rfl⟩
        obtain ⟨r2, hr2⟩ : ∃ r2 : Nat, r2 = r + 4294967295 := ⟨_, rfl⟩
        rw [← hq2, ← hr2] at HK
        have hs1 : (q : Int) - 1 = (q2 : Int) := by omega
        have hs2 : (r : Int) + 4294967295 = (r2 : Int) := by omega
        have hq3 : q2 ≤ 4294967296 := by omega
        have hq4 : q2 < q := by omega
        have hr3 : r2 < 8589934592 := by omega
        clear hq2 hr2
        by_cases hb : 4294967296 ≤ r2
        · have hbb : decide ((4294967296 : Int) ≤ (r2 : Int)) = true := decide_eq_true (by omega)
          have HB := Lib.hid hb
          clear hb
          go_wp2
          go_meet
          exact ⟨rfl, q2, rfl, HD1.out _ _ HK.out (Sg.Kn.over HK.out b4 hq3 HB.out)⟩
        · have hbb : decide ((4294967296 : Int) ≤ (r2 : Int)) = false := decide_eq_false (by omega)
          have HB := Lib.hid hb
          clear hb
          go_wp2
          go_round
          case rel => exact ⟨q2, r2, rfl, rfl, HK.out, by omega, by have := HB.out; omega⟩
          case measure => simp [intOf]; omega
      · have hb1 : decide ((4294967296 : Int) ≤ (q : Int)) = false := decide_eq_false (by omega)
        obtain ⟨m, hm⟩ : ∃ m : Nat, m = q * d := ⟨_, rfl⟩
        have hm1 : m < 18446744073709551616 := by rw [hm]; exact prod_lt q d (by omega) b4
        have hm2 : IntKind.u64.wrap ((q : Int) * (d : Int)) = (m : Int) := by rw [hm, M64.mulN, M64.wrapN _ (by rw [← hm]; exact hm1)]
        by_cases h2 : 4294967296 * r + u1 < m
        · have hb2 : decide (4294967296 * (r : Int) + (u1 : Int) < (m : Int)) = true := decide_eq_true (by omega)
          have hl := Sg.Kn.less HK0.out (by rw [EY.out]; omega) (by omega) (.inr (by rw [← hm]; exact h2))
          have hq0 := hl.1
          have HK := Lib.hid hl.2
          clear hl h1 h2 hm HK0
          obtain ⟨q2, hq2⟩ : ∃ q2 : Nat, q2 = q - 1 := ⟨_, rfl⟩
          obtain ⟨r2, hr2⟩ : ∃ r2 : Nat, r2 = r + 4294967295 := ⟨_, rfl⟩
          rw [← hq2, ← hr2] at HK
          have hs1 : (q : Int) - 1 = (q2 : Int) := by omega
          have hs2 : (r : Int) + 4294967295 = (r2 : Int) := by omega
          have hq3 : q2 ≤ 4294967296 := by omega
          have hq4 : q2 < q := by omega
          have hr3 : r2 < 8589934592 := by omega
          clear hq2 hr2
          by_cases hb : 4294967296 ≤ r2
          · have hbb : decide ((4294967296 : Int) ≤ (r2 : Int)) = true := decide_eq_true (by omega)
            have HB := Lib.hid hb
            clear hb
            go_wp2
            go_meet
            exact ⟨rfl, q2, rfl, HD1.out _ _ HK.out (Sg.Kn.over HK.out b4 hq3 HB.out)⟩
          · have hbb : decide ((4294967296 : Int) ≤ (r2 : Int)) = false := decide_eq_false (by omega)
            have HB := Lib.hid hb
            clear hb
            go_wp2
            go_round
            case rel => exact ⟨q2, r2, rfl, rfl, HK.out, by omega, by have := HB.out; omega⟩
            case measure => simp [intOf]; omega
        · have hb2 : decide (4294967296 * (r : Int) + (u1 : Int) < (m : Int)) = false := decide_eq_false (by omega)
          have HG := Lib.hid (show q * d ≤ 4294967296 * r + u1 by omega)
          clear h1 h2 hm
          go_wp2
          go_meet
          exact ⟨rfl, q, rfl, HD1.out _ _ HK0.out HG.out⟩
  case rest =>
    obtain ⟨rfl, q1, rfl, hg1⟩ := hcut
    have G1 := Lib.hid hg1
    have c1 := guess_lt q1 Y U u1 b11 b7 hg1.1
    obtain ⟨a, ea⟩ : ∃ a : Nat, a = U * 4294967296 % 18446744073709551616 := ⟨_, rfl⟩
    obtain ⟨p, ep⟩ : ∃ p : Nat, p = q1 * Y % 18446744073709551616 := ⟨_, rfl⟩
    have i1 : IntKind.u64.wrap ((U : Int) * 4294967296) = (a : Int) := by rw [IntKind.wrap_u64]; omega
    have i2 : IntKind.u64.wrap ((q1 : Int) * (Y : Int)) = (p : Int) := by rw [M64.mulN, M64.wrapM, ← ep]
    have i3 : IntKind.u64.wrap ((a : Int) + (u1 : Int) - (p : Int)) = (n1 : Int) := left_wrap U u1 Y q1 n1 a p hg1.1 hg1.2 (by omega) ea ep
    have c2 : a + 4294967296 ≤ 18446744073709551616 := by omega
    have c3 : p < 18446744073709551616 := by omega
    have c4 : n1 < 18446744073709551616 := by omega
    obtain ⟨k0, ek0⟩ : ∃ k0 : Nat, k0 = n1 / 4294967295 := ⟨_, rfl⟩
    obtain ⟨l0, el0⟩ : ∃ l0 : Nat, l0 = n1 % 4294967295 := ⟨_, rfl⟩
    have c5 : k0 ≤ 4294967297 := by omega
    have c6 : l0 < 4294967295 := by omega
    have i4 : (n1 : Int) / 4294967295 = (k0 : Int) := by omega
    have i5 : (n1 : Int) - (k0 : Int) * 4294967295 = (l0 : Int) := by omega
    have K1 : Hid (Sg.Kn n1 u0 4294967295 d k0 l0) := Lib.hid (by rw [ek0, el0]; exact Sg.Kn.start n1 u0 4294967295 d (by omega) b8)
    obtain ⟨n0, en0⟩ : ∃ n0 : Nat, n0 = (n1 * 4294967296 + u0) % Y := ⟨_, rfl⟩
    have b16 : n0 < Y := by rw [en0]; exact Nat.mod_lt _ b12
    have EN0 := Lib.hid en0
    have HD0 : Hid (∀ q r : Nat, Sg.Kn n1 u0 4294967295 d q r → q * d ≤ 4294967296 * r + u0 → Gd n1 u0 Y q n0) := Lib.hid (fun q r hk hg => by
      have h := Sg.Kn.done hk hg
      rw [EY.out] at h
      exact ⟨h.1, h.2.trans EN0.out.symm⟩)
    clear hg1 ea ep ek0 el0 en0 G1 K0 HD1
    go_upto_block 2 with (fail)
    go_cut [18] (fun s wx => w = wx ∧ ∃ q : Nat, s = .int .u64 q ∧ Gd n1 u0 Y q n0)
    case first =>
      go_wp2_with fail
      go_loop [16, 18] (fun sr sq => ∃ q r : Nat, sq = .int .u64 q ∧ sr = .int .u64 r ∧ Sg.Kn n1 u0 4294967295 d q r ∧ q ≤ 4294967297 ∧ r < 4294967296) (fun _ sq => (intOf sq).toNat)
      case atStart => exact ⟨k0, l0, rfl, rfl, K1.out, by omega, by omega⟩
      case round =>
        obtain ⟨q, r, rfl, rfl, hk, hq, hr⟩ := hrel
        have HK0 := Lib.hid hk
        clear hk
        by_cases h1 : 4294967296 ≤ q
        · have hb1 : decide ((4294967296 : Int) ≤ (q : Int)) = true := decide_eq_true (by omega)
          have hl := Sg.Kn.less HK0.out (by rw [EY.out]; omega) (by omega) (.inl h1)
          have hq0 := hl.1
          have HK := Lib.hid hl.2
          clear hl h1 HK0
          obtain ⟨q2, hq2⟩ : ∃ q2 : Nat, q2 = q - 1 := ⟨_, rfl⟩
          obtain ⟨r2, hr2⟩ : ∃ r2 : Nat, r2 = r + 4294967295 := ⟨_, rfl⟩
          rw [← hq2, ← hr2] at HK
          have hs1 : (q : Int) - 1 = (q2 : Int) := by omega
          have hs2 : (r : Int) + 4294967295 = (r2 : Int) := by omega
          have hq3 : q2 ≤ 4294967296 := by omega
          have hq4 : q2 < q := by omega
          have hr3 : r2 < 8589934592 := by omega
          clear hq2 hr2
          by_cases hb : 4294967296 ≤ r2
          · have hbb : decide ((4294967296 : Int) ≤ (r2 : Int)) = true := decide_eq_true (by omega)
            have HB := Lib.hid hb
            clear hb
            go_wp2
            go_meet
            exact ⟨rfl, q2, rfl, HD0.out _ _ HK.out (Sg.Kn.over HK.out b4 hq3 HB.out)⟩
          · have hbb : decide ((4294967296 : Int) ≤ (r2 : Int)) = false := decide_eq_false (by omega)
            have HB := Lib.hid hb
            clear hb
            go_wp2
            go_round
            case rel => exact ⟨q2, r2, rfl, rfl, HK.out, by omega, by have := HB.out; omega⟩
            case measure => simp [intOf]; omega
        · have hb1 : decide ((4294967296 : Int) ≤ (q : Int)) = false := decide_eq_false (by omega)
          obtain ⟨m, hm⟩ : ∃ m : Nat, m = q * d := ⟨_, rfl⟩
          have hm1 : m < 18446744073709551616 := by rw [hm]; exact prod_lt q d (by omega) b4
          have hm2 : IntKind.u64.wrap ((q : Int) * (d : Int)) = (m : Int) := by rw [hm, M64.mulN, M64.wrapN _ (by rw [← hm]; exact hm1)]
          by_cases h2 : 4294967296 * r + u0 < m
          · have hb2 : decide (4294967296 * (r : Int) + (u0 : Int) < (m : Int)) = true := decide_eq_true (by omega)
            have hl := Sg.Kn.less HK0.out (by rw [EY.out]; omega) (by omega) (.inr (by rw [← hm]; exact h2))
            have hq0 := hl.1
            have HK := Lib.hid hl.2
            clear hl h1 h2 hm HK0
            obtain ⟨q2, hq2⟩ : ∃ q2 : Nat, q2 = q - 1 := ⟨_, rfl⟩
            obtain ⟨r2, hr2⟩ : ∃ r2 : Nat, r2 = r + 4294967295 := ⟨_, rfl⟩
            rw [← hq2, ← hr2] at HK
            have hs1 : (q : Int) - 1 = (q2 : Int) := by omega
            have hs2 : (r : Int) + 4294967295 = (r2 : Int) := by omega
            have hq3 : q2 ≤ 4294967296 := by omega
            have hq4 : q2 < q := by omega
            have hr3 : r2 < 8589934592 := by omega
            clear hq2 hr2
            by_cases hb : 4294967296 ≤ r2
            · have hbb : decide ((4294967296 : Int) ≤ (r2 : Int)) = true := decide_eq_true (by omega)
              have HB := Lib.hid hb
              clear hb
              go_wp2
              go_meet
              exact ⟨rfl, q2, rfl, HD0.out _ _ HK.out (Sg.Kn.over HK.out b4 hq3 HB.out)⟩
            · have hbb : decide ((4294967296 : Int) ≤ (r2 : Int)) = false := decide_eq_false (by omega)
              have HB := Lib.hid hb
              clear hb
              go_wp2
              go_round
              case rel => exact ⟨q2, r2, rfl, rfl, HK.out, by omega, by have := HB.out; omega⟩
              case measure => simp [intOf]; omega
          · have hb2 : decide (4294967296 * (r : Int) + (u0 : Int) < (m : Int)) = false := decide_eq_false (by omega)
            have HG := Lib.hid (show q * d ≤ 4294967296 * r + u0 by omega)
            clear h1 h2 hm
            go_wp2
            go_meet
            exact ⟨rfl, q, rfl, HD0.out _ _ HK0.out HG.out⟩
    case rest =>
      obtain ⟨rfl, k1, rfl, hg2⟩ := hcut
      have c7 := guess_lt k1 Y n1 u0 b13 b8 hg2.1
      obtain ⟨a', ea⟩ : ∃ a : Nat, a = n1 * 4294967296 % 18446744073709551616 := ⟨_, rfl⟩
      obtain ⟨p', ep⟩ : ∃ p : Nat, p = k1 * Y % 18446744073709551616 := ⟨_, rfl⟩
      have j1 : IntKind.u64.wrap ((n1 : Int) * 4294967296) = (a' : Int) := by rw [IntKind.wrap_u64]; omega
      have j2 : IntKind.u64.wrap ((k1 : Int) * (Y : Int)) = (p' : Int) := by rw [M64.mulN, M64.wrapM, ← ep]
      have j3 : IntKind.u64.wrap ((a' : Int) + (u0 : Int) - (p' : Int)) = (n0 : Int) := left_wrap n1 u0 Y k1 n0 a' p' hg2.1 hg2.2 (by omega) ea ep
      have c8 : a' + 4294967296 ≤ 18446744073709551616 := by omega
      have c9 : p' < 18446744073709551616 := by omega
      have j4 : (n0 : Int) / 8 = (z : Int) := by have := ED.out n0 EN0.out; omega
      obtain ⟨x, ex⟩ : ∃ x : Nat, x = q1 * 4294967296 := ⟨_, rfl⟩
      have j5 : (q1 : Int) * 4294967296 = (x : Int) := by omega
      have c10 : x + 4294967296 ≤ 18446744073709551616 := by omega
      have X := Lib.hid (show (x : Int) + (k1 : Int) = ((x + k1 : Nat) : Int) by omega)
      clear hg2 ea ep ex
      go_wp2
      go_ret2
      exact ⟨⟨x + k1, by rw [← X.out]; rfl⟩, rfl⟩

end Go.Proofs.YtkicjjcangkneaaGreatDoor

/-
  Package sign's modulus: sums, products and powers of numbers of 64 bits, modulo 2^61 - 1 or 2^61 - 2 (powers: modulo 2^61 - 1, of field numbers); what was there is left as it was.
-/
namespace Go.Proofs.YtkicjjcangkneaaGreatDoor
open Go.RowKit

theorem div_any (hi lo y : Nat) (w : World) (hy : 2305843009213693950 ≤ y ∧ y ≤ 2305843009213693951) (hhi : hi < y) (hlo : lo < 18446744073709551616) :
    Calls Tryz.prog 221 #[.int .u64 (hi : Int), .int .u64 (lo : Int), .int .u64 (y : Int)] w fun e w' => Lft e ((hi * 18446744073709551616 + lo) % y) ∧ Below w.heap.size w w' := by
  by_cases h0 : hi = 0
  · subst h0
    have h := div_small lo y w hy hlo
    rw [Nat.zero_mul, Nat.zero_add]
    exact h
  · exact (div_great hi lo y w hy (by omega) hhi hlo).mono fun _ _ ⟨h, e⟩ => ⟨h, e ▸ Below.refl _ _⟩

theorem rem_any (hi lo y : Nat) (w : World) (hy : 2305843009213693950 ≤ y ∧ y ≤ 2305843009213693951) (hhi : hi < 18446744073709551616) (hlo : lo < 18446744073709551616) :
    Calls Tryz.prog 204 #[.int .u64 (hi : Int), .int .u64 (lo : Int), .int .u64 (y : Int)] w fun e w' => e = .returned (.int .u64 ((hi * 18446744073709551616 + lo) % y : Nat)) ∧ Below w.heap.size w w' := by
  obtain ⟨r, hr⟩ : ∃ r : Nat, r = hi % y := ⟨_, rfl⟩
  have h1 : (hi : Int) % (y : Int) = (r : Int) := by rw [hr]; exact (Int.natCast_emod hi y).symm
  have h2 : (hi : Int).tmod (y : Int) = (r : Int) := by rw [Int.tmod_eq_emod_of_nonneg (by omega)]; exact h1
  have h3 : ¬ (y : Int) = 0 := by omega
  have h4 : 0 < y := by omega
  have hl : r < y := by rw [hr]; exact Nat.mod_lt _ h4
  have e : (hi * 18446744073709551616 + lo) % y = (r * 18446744073709551616 + lo) % y := by
    rw [hr, Nat.add_mod, Nat.mul_mod, ← Nat.mod_mod hi y, ← Nat.mul_mod, ← Nat.add_mod, Nat.mod_mod]
  have H := Lib.hid (div_any r lo y w hy hl hlo)
  rw [← e] at H
  obtain ⟨z, hz⟩ : ∃ z : Nat, z = (hi * 18446744073709551616 + lo) % y := ⟨_, rfl⟩
  rw [← hz] at H ⊢
  have h5 : r < 2305843009213693952 := by omega
  clear hr e hz hy hl
  go_enter Tryz.func204, Tryz.ntmps204
  go_wp2_with fail
  refine (H.out).mono ?_
  rintro e w' ⟨⟨q, rfl⟩, hb⟩
  go_wp2
  go_ret
  exact ⟨rfl, hb⟩

theorem prod_any (m a b : Nat) (w : World) (hm : 2305843009213693950 ≤ m ∧ m ≤ 2305843009213693951) (ha : a < 18446744073709551616) (hb : b < 18446744073709551616) :
    Calls Tryz.prog 165 #[.int .u64 (m : Int), .int .u64 (a : Int), .int .u64 (b : Int)] w fun e w' => e = .returned (.int .u64 (a * b % m : Nat)) ∧ Below w.heap.size w w' := by
  have h1 := mul64_any a b ha hb w
  have hz : a * b < 340282366920938463463374607431768211456 := by
    have h : a * b ≤ 18446744073709551615 * 18446744073709551615 := Nat.mul_le_mul (Nat.le_pred_of_lt ha) (Nat.le_pred_of_lt hb)
    omega
  generalize a * b = z at h1 hz ⊢
  obtain ⟨u, hu⟩ : ∃ u : Nat, u = z / 18446744073709551616 := ⟨_, rfl⟩
  obtain ⟨v, hv⟩ : ∃ v : Nat, v = z % 18446744073709551616 := ⟨_, rfl⟩
  have h2 := fun W => rem_any u v m W hm (by omega) (by omega)
  rw [show u * 18446744073709551616 + v = z by omega] at h2
  rw [← hu, ← hv] at h1
  obtain ⟨r, hr⟩ : ∃ r : Nat, r = z % m := ⟨_, rfl⟩
  rw [← hr] at h2 ⊢
  have H1 := Lib.hid h1
  have H2 := Lib.hid h2
  clear h1 h2 hr hu hv hz hm
  go_enter Tryz.func165, Tryz.ntmps165
  go_wp2_with fail
  refine (H1.out).mono ?_
  rintro e w' ⟨rfl, rfl⟩
  go_wp2_with fail
  refine (H2.out _).mono ?_
  rintro e w1 ⟨rfl, hb1⟩
  go_wp2
  go_ret
  exact ⟨rfl, hb1⟩

theorem add64_run (x y : Nat) (w : World) :
    (callFunc 220 #[.int .u64 (x : Int), .int .u64 (y : Int), .int .u64 0]).run Tryz.prog w =
      .ok (.value (.tuple #[.int .u64 (((x + y) % 18446744073709551616 : Nat) : Int), .int .u64 (((x + y) / 18446744073709551616 : Nat) : Int)])) w := by
  rw [run_callFunc_extern (fn := Tryz.f220) (by kernel_rfl) (by kernel_rfl) (by kernel_rfl) (by kernel_rfl) (e := add64Entry) (by kernel_rfl), run_add64 x y 0 (by omega) (by omega) (by omega) (by omega)]
  simp only [Result.andThen]
  congr 5 <;> omega

theorem sum_any (m a b : Nat) (w : World) (hm : 2305843009213693950 ≤ m ∧ m ≤ 2305843009213693951) (ha : a < 18446744073709551616) (hb : b < 18446744073709551616) :
    Calls Tryz.prog 202 #[.int .u64 (m : Int), .int .u64 (a : Int), .int .u64 (b : Int)] w fun e w' => e = .returned (.int .u64 ((a + b) % m : Nat)) ∧ Below w.heap.size w w' := by
  have h1 := add64_run a b
  obtain ⟨z, ez⟩ : ∃ z : Nat, z = a + b := ⟨_, rfl⟩
  rw [← ez] at h1 ⊢
  obtain ⟨u, hu⟩ : ∃ u : Nat, u = z / 18446744073709551616 := ⟨_, rfl⟩
  obtain ⟨v, hv⟩ : ∃ v : Nat, v = z % 18446744073709551616 := ⟨_, rfl⟩
  have h2 := fun W => rem_any u v m W hm (by omega) (by omega)
  rw [show u * 18446744073709551616 + v = z by omega] at h2
  rw [← hu, ← hv] at h1
  obtain ⟨r, hr⟩ : ∃ r : Nat, r = z % m := ⟨_, rfl⟩
  rw [← hr] at h2 ⊢
  have H2 := Lib.hid h2
  clear h2 hr hu hv ez hm
  go_enter Tryz.func202, Tryz.ntmps202
  go_wp2_with (go_at_call 204; refine (H2.out _).mono ?_; rintro e w1 ⟨rfl, hb1⟩)
  go_ret
  exact ⟨rfl, hb1⟩

set_option maxHeartbeats 400000 in
theorem power_any (a n : Nat) (w : World) (ha : a < 2305843009213693951) (hn : n < 18446744073709551616) :
    Calls Tryz.prog 70 #[.int .u64 2305843009213693951, .int .u64 (a : Int), .int .u64 (n : Int)] w fun e w' => e = .returned (.int .u64 (Fld.pow a n : Nat)) ∧ Below w.heap.size w w' := by
  have hst := Lib.hid (show PowInv a n 1 a n by have h := PowInv.start a n; rwa [show Fld.num a = a from Nat.mod_eq_of_lt ha] at h)
  have HP : Hid (∀ x y : Nat, x < 2305843009213693951 → y < 2305843009213693951 → ∀ W : World, Calls Tryz.prog 165 #[.int .u64 2305843009213693951, .int .u64 (x : Int), .int .u64 (y : Int)] W fun e w' => e = .returned (.int .u64 (Fld.mul x y : Nat)) ∧ Below W.heap.size W w') :=
    Lib.hid fun x y hx hy W => prod_any 2305843009213693951 x y W (by omega) (by omega) (by omega)
  go_enter Tryz.func70, Tryz.ntmps70
  go_wp2
  go_loopw [2, 7, 8] (fun k o b wr => ∃ o' b' k' : Nat, o = .int .u64 o' ∧ b = .int .u64 b' ∧ k = .int .u64 k' ∧ k' < 18446744073709551616 ∧ PowInv a n o' b' k' ∧ Below w.heap.size w wr)
    (fun k _ _ _ => (intOf k).toNat)
  case atStart => exact ⟨1, a, n, rfl, rfl, rfl, hn, hst.out, Below.refl _ _⟩
  case round =>
    obtain ⟨o, b, k, rfl, rfl, rfl, hk, hI, hB⟩ := hrel
    by_cases hz : k = 0
    · subst hz
      have HI := Lib.hid hI
      clear hI
      go_wp2
      go_ret
      exact ⟨ret_u64 (by rw [HI.out.done]), hB⟩
    · have hpos : 0 < k := Nat.pos_of_ne_zero hz
      have hdv : (k : Int) / 2 = ((k / 2 : Nat) : Int) := by omega
      have hand : bits .and .u64 (k : Int) 1 = ((k % 2 : Nat) : Int) := by
        have h := bits_and_u64_nat k 1 hk (by omega)
        rw [Nat.and_one_is_mod] at h
        exact h
      have ho := hI.1
      have hbl := hI.2.1
      by_cases h1 : k % 2 = 1
      · have HI := Lib.hid (hI.odd h1)
        rw [h1] at hand
        have hand1 : bits .and .u64 (k : Int) 1 = 1 := hand
        obtain ⟨k2, hk2⟩ : ∃ k2 : Nat, k2 = k / 2 := ⟨_, rfl⟩
        rw [← hk2] at hdv HI
        have hlt : k2 < k := by omega
        clear hk2 h1 hI hz hand
        go_wp2_with fail
        refine (HP.out _ _ (by assumption) (by assumption) _).mono ?_
        rintro e w0 ⟨rfl, hb0⟩
        go_wp2_with fail
        refine (HP.out _ _ (by assumption) (by assumption) _).mono ?_
        rintro e w' ⟨rfl, hb1⟩
        go_wp2
        go_roundw
        case rel => exact ⟨Fld.mul o b, Fld.mul b b, k2, rfl, rfl, rfl, by omega, HI.out, hB.trans ((hb0.trans (hb1.mono hb0.size)).mono hB.size)⟩
        case measure => simp [intOf]; omega
      · have h2 : k % 2 = 0 := by omega
        have HI := Lib.hid (hI.even h2)
        rw [h2] at hand
        have hand1 : bits .and .u64 (k : Int) 1 = 0 := hand
        obtain ⟨k2, hk2⟩ : ∃ k2 : Nat, k2 = k / 2 := ⟨_, rfl⟩
        rw [← hk2] at hdv HI
        have hlt : k2 < k := by omega
        clear hk2 h1 h2 hI hz hand
        go_wp2_with fail
        refine (HP.out _ _ (by assumption) (by assumption) _).mono ?_
        rintro e w' ⟨rfl, hb1⟩
        go_wp2
        go_roundw
        case rel => exact ⟨o, Fld.mul b b, k2, rfl, rfl, rfl, by omega, HI.out, hB.trans (hb1.mono hB.size)⟩
        case measure => simp [intOf]; omega

end Go.Proofs.YtkicjjcangkneaaGreatDoor

/-
  Package sign: what is signed, and what is taken, is the document's; what was there is left as it was. Secrets and public keys of 64 bits, bytes that can be read, up to 2^40 of them.
-/
namespace Go.Proofs.YtkicjjcangkneaaGreatDoor
open Go.RowKit

namespace Sg
/-- A record of two numbers that is written whole. -/
def set2 (w : World) (R : Nat) (a b : Value) : World := (w.setCell ⟨R, 0, none⟩ a).setCell ⟨R, 1, none⟩ b
theorem blk_set2 {w : World} {R t : Nat} {p q : Value} (h : Blk w R t #[p, q]) (a b : Value) : Blk (set2 w R a b) R t #[a, b] := by
  have h1 := (h.set_ 0 a).set_ 1 b
  exact h1
theorem grown_set2 (w : World) (R : Nat) (a b : Value) : w.grownBy (set2 w R a b) (some R) := only_set (only_set (only_refl _ _) 0 a) 1 b
theorem cell_set2 {w : World} {R B o : Nat} {v : Value} (h : w.cell? ⟨B, o, none⟩ = some v) (hB : B ≠ R) (a b : Value) : (set2 w R a b).cell? ⟨B, o, none⟩ = some v :=
  (World.cell?_of_block (Below.heap_setCell _ ⟨R, 1, none⟩ b B hB)).trans ((World.cell?_of_block (Below.heap_setCell _ ⟨R, 0, none⟩ a B hB)).trans h)
theorem below_set2 {w : World} {R n : Nat} (a b : Value) (h : n ≤ R) (hn : n ≤ w.heap.size) : Below n w (set2 w R a b) := below_only (grown_set2 w R a b) h hn
end Sg

theorem secret_new (s : ByteArray) (l : List Nat) (n : Nat) (w : World) (hs : s.size ≤ 1000000) (hn : n = l.length) (hl : l.length ≤ 1000000) (hx : ∀ x ∈ l, x < 18446744073709551616) :
    Calls Tryz.prog 157 #[.string s, .slice (some ⟨w.heap.size, 0, none⟩) n n] (w.alloc (.cells (u64s l).toArray 25)) fun e w' => e = .returned (.int .u64 (Hsh.secret s.data.toList l : Nat)) ∧ Below w.heap.size w w' :=
  (secret_any s _ n n l _ (by omega) hn (by omega) hx (Bx.news w l)).mono fun _ _ ⟨h, hb⟩ => ⟨h, Bx.below_new hb⟩

theorem spub_any (s : Nat) (w : World) (hs : s < 18446744073709551616) :
    Calls Tryz.prog 159 #[.int .u64 s] w fun e w' => e = .returned (.int .u64 (Bx.pub s : Nat)) ∧ Below w.heap.size w w' := by
  have H := Lib.hid (pub_any s w hs)
  go_enter Tryz.func159, Tryz.ntmps159
  go_wp2_with fail
  refine (H.out).mono ?_
  rintro e w1 ⟨rfl, hb1⟩
  go_wp2
  go_ret
  exact ⟨rfl, hb1⟩

theorem message_any {w : World} {A : Option Addr} {n c : Nat} {l : List UInt8} (h : Bt w A n c l) (hn : n ≤ 1000000) :
    Calls Tryz.prog 73 #[.slice A n c] w fun e w' => e = .returned (.int .u64 (Sg.msg l : Nat)) ∧ Below w.heap.size w w' := by
  have H := Lib.hid (bytes_any ⟨#[115, 105, 103, 110, 101, 100]⟩ l A n c w h.len h.cap (by omega) (by decide) h.rd)
  clear h hn
  go_enter Tryz.func73, Tryz.ntmps73
  go_wp2_with fail
  refine (H.out).mono ?_
  rintro e w1 ⟨rfl, hb1⟩
  go_wp2
  go_ret
  exact ⟨rfl, hb1⟩

theorem asked_any (r t m : Nat) (w : World) (hr : r < 18446744073709551616) (ht : t < 18446744073709551616) (hm : m < 18446744073709551616) :
    Calls Tryz.prog 72 #[.int .u64 r, .int .u64 t, .int .u64 m] w fun e w' => e = .returned (.int .u64 (Sg.ask r t m : Nat)) ∧ Below w.heap.size w w' := by
  have h := of_new ⟨#[115, 105, 103]⟩ [r, t, m] 3 w (by decide) rfl (by simp) (by
    intro x hx
    simp only [List.mem_cons, List.not_mem_nil, or_false] at hx
    rcases hx with rfl | rfl | rfl <;> assumption)
  have H := Lib.hid h
  clear h
  go_enter Tryz.func72, Tryz.ntmps72
  go_wp2_with fail
  refine (H.out).mono ?_
  rintro e w1 ⟨rfl, hb1⟩
  go_wp2
  go_ret
  exact ⟨rfl, hb1⟩

/-! ### the closure that reckons modulo P - 1 -/
/-- The three variables that it has caught. -/
def Sc (w : World) (Bm Bo Bs o s : Nat) : Prop :=
  Bm < w.heap.size ∧ Bo < w.heap.size ∧ Bs < w.heap.size ∧ w.cell? ⟨Bm, 0, none⟩ = some (.int .u64 2305843009213693950) ∧ w.cell? ⟨Bo, 0, none⟩ = some (.int .u64 o) ∧ w.cell? ⟨Bs, 0, none⟩ = some (.int .u64 s)
theorem Sc.below {w w' : World} {Bm Bo Bs o s : Nat} (h : Sc w Bm Bo Bs o s) (hb : Below w.heap.size w w') : Sc w' Bm Bo Bs o s := by
  obtain ⟨h1, h2, h3, c1, c2, c3⟩ := h
  have hs := hb.size
  exact ⟨by omega, by omega, by omega, (hb.cell (p := ⟨Bm, 0, none⟩) h1).trans c1, (hb.cell (p := ⟨Bo, 0, none⟩) h2).trans c2, (hb.cell (p := ⟨Bs, 0, none⟩) h3).trans c3⟩
/-- What its cells are. -/
def Cs (w : World) (Bm Bo Bs o s : Nat) : Prop := w.cell? ⟨Bm, 0, none⟩ = some (.int .u64 2305843009213693950) ∧ w.cell? ⟨Bo, 0, none⟩ = some (.int .u64 o) ∧ w.cell? ⟨Bs, 0, none⟩ = some (.int .u64 s)

set_option maxRecDepth 100000 in
set_option maxHeartbeats 2000000 in
theorem closure_any (e o s Bm Bo Bs : Nat) (w : World) (he : e < 18446744073709551616) (ho : o < 18446744073709551616) (hs : s < 18446744073709551616) (h : Sc w Bm Bo Bs o s) :
    Calls Tryz.prog 201 #[.int .u64 e, .pointer (some ⟨Bm, 0, none⟩), .pointer (some ⟨Bo, 0, none⟩), .pointer (some ⟨Bs, 0, none⟩)] w fun r w' =>
      r = .returned (.int .u64 (Sg.ans o e s : Nat)) ∧ Below w.heap.size w w' := by
  have HP : Hid (∀ W : World, Calls Tryz.prog 165 #[.int .u64 2305843009213693950, .int .u64 (e : Int), .int .u64 (s : Int)] W fun r w' => r = .returned (.int .u64 (e * s % 2305843009213693950 : Nat)) ∧ Below W.heap.size W w') :=
    Lib.hid fun W => prod_any 2305843009213693950 e s W (by omega) he hs
  have hxl : e * s % 2305843009213693950 < 2305843009213693950 := Nat.mod_lt _ (by omega)
  have hans : (o + e * s % 2305843009213693950) % 2305843009213693950 = Sg.ans o e s := rfl
  obtain ⟨x, hx⟩ : ∃ x, x = e * s % 2305843009213693950 := ⟨_, rfl⟩
  rw [← hx] at HP hxl hans
  have HS : Hid (∀ W : World, Calls Tryz.prog 202 #[.int .u64 2305843009213693950, .int .u64 (o : Int), .int .u64 (x : Int)] W fun r w' => r = .returned (.int .u64 ((o + x) % 2305843009213693950 : Nat)) ∧ Below W.heap.size W w') :=
    Lib.hid fun W => sum_any 2305843009213693950 o x W (by omega) ho (by omega)
  rw [hans] at HS
  clear hx hans hxl
  have hc0 := h
  have k0 : w.cell? ⟨Bm, 0, none⟩ = some (.int .u64 2305843009213693950) ∧ w.cell? ⟨Bo, 0, none⟩ = some (.int .u64 (o : Int)) ∧ w.cell? ⟨Bs, 0, none⟩ = some (.int .u64 (s : Int)) := ⟨h.2.2.2.1, h.2.2.2.2.1, h.2.2.2.2.2⟩
  have k0' : w.drew.cell? ⟨Bm, 0, none⟩ = some (.int .u64 2305843009213693950) ∧ w.drew.cell? ⟨Bo, 0, none⟩ = some (.int .u64 (o : Int)) ∧ w.drew.cell? ⟨Bs, 0, none⟩ = some (.int .u64 (s : Int)) := k0
  have HC0 := Lib.hid hc0
  clear hc0 h
  go_enter Tryz.func201, Tryz.ntmps201
  go_wp2_with fail
  go_region_held3 (fun w' : World => w'.cell? ⟨Bm, 0, none⟩ = some (.int .u64 2305843009213693950) ∧ w'.cell? ⟨Bo, 0, none⟩ = some (.int .u64 (o : Int)) ∧ w'.cell? ⟨Bs, 0, none⟩ = some (.int .u64 (s : Int)))
    ((first | with_reducible exact k0 | with_reducible exact k0' | with_reducible exact k1 | with_reducible exact k2))
    (first
      | (go_at_call 165; ((with_reducible refine (HP.out _).mono ?_); rintro r w1 ⟨rfl, hb1'⟩; have hb1 := below_of_drew hb1'; clear hb1'; have HC1 := Lib.hid (HC0.out.below hb1); have k1 := And.intro HC1.out.2.2.2.1 (And.intro HC1.out.2.2.2.2.1 HC1.out.2.2.2.2.2)))
      | (go_at_call 202; ((with_reducible refine (HS.out _).mono ?_); rintro r w2 ⟨rfl, hb2⟩; have k2' := (HC1.out.below hb2); have k2 := And.intro k2'.2.2.2.1 (And.intro k2'.2.2.2.2.1 k2'.2.2.2.2.2); clear k2')))
  go_wp2
  go_ret
  exact ⟨rfl, kept_trans hb1 hb2⟩

theorem answering_new (o s : Nat) (w : World) :
    Calls Tryz.prog 158 #[.int .u64 o, .int .u64 s] w fun r w' =>
      r = .returned (.func (.func 201) #[] #[.pointer (some ⟨w.heap.size + 2, 0, none⟩), .pointer (some ⟨w.heap.size, 0, none⟩), .pointer (some ⟨w.heap.size + 1, 0, none⟩)]) ∧
        w' = ((w.alloc (.cells #[.int .u64 o] 25)).alloc (.cells #[.int .u64 s] 25)).alloc (.cells #[.int .u64 2305843009213693950] 110) := by
  go_enter Tryz.func158, Tryz.ntmps158
  go_wp2
  go_ret
  exact ⟨rfl, rfl⟩
theorem answering_any (o s : Nat) (w : World) :
    Calls Tryz.prog 158 #[.int .u64 o, .int .u64 s] w fun r w' =>
      (∃ Bm Bo Bs, r = .returned (.func (.func 201) #[] #[.pointer (some ⟨Bm, 0, none⟩), .pointer (some ⟨Bo, 0, none⟩), .pointer (some ⟨Bs, 0, none⟩)]) ∧ Sc w' Bm Bo Bs o s) ∧ Below w.heap.size w w' := by
  refine (answering_new o s w).mono ?_
  rintro r w' ⟨rfl, rfl⟩
  have h1 := (blk_new w 25 #[.int .u64 (o : Int)])
  have h2 := (blk_new (w.alloc (.cells #[.int .u64 (o : Int)] 25)) 25 #[.int .u64 (s : Int)])
  have h3 := (blk_new ((w.alloc (.cells #[.int .u64 (o : Int)] 25)).alloc (.cells #[.int .u64 (s : Int)] 25)) 110 #[.int .u64 2305843009213693950])
  have s1 : (w.alloc (.cells #[.int .u64 (o : Int)] 25)).heap.size = w.heap.size + 1 := by simp
  have s2 : ((w.alloc (.cells #[.int .u64 (o : Int)] 25)).alloc (.cells #[.int .u64 (s : Int)] 25)).heap.size = w.heap.size + 2 := by simp
  rw [s1] at h2
  rw [s2] at h3
  have h1' := blk_alloc (blk_alloc h1 (.cells #[.int .u64 (s : Int)] 25)) (.cells #[.int .u64 2305843009213693950] 110)
  have h2' := blk_alloc h2 (.cells #[.int .u64 2305843009213693950] 110)
  exact ⟨⟨_, _, _, rfl, h3.lt, h1'.lt, h2'.lt, h3.cell 0, h1'.cell 0, h2'.cell 0⟩, (((Below.refl _ w).alloc (Nat.le_refl _) _).alloc (by simp) _).alloc (by simp; omega) _⟩

end Go.Proofs.YtkicjjcangkneaaGreatDoor

/-
  Package sign: Sign and Check tell the document's; what was there is left as it was. Secrets and public keys, and what a signature has, of 64 bits; bytes that can be read, up to 10^6 of them.
-/
namespace Go.Proofs.YtkicjjcangkneaaGreatDoor
open Go.RowKit

set_option maxRecDepth 100000 in
set_option maxHeartbeats 2000000 in
theorem sign_any {w : World} {A : Option Addr} {n c : Nat} {l : List UInt8} (h : Bt w A n c l) (hn : n ≤ 1000000) (s : Nat) (hs : s < 18446744073709551616) :
    Calls Tryz.prog 66 #[.int .u64 s, .slice A n c] w fun e w' => e = .returned (.agg #[.int .u64 (Sg.R s (Sg.msg l) : Nat), .int .u64 (Sg.S s (Sg.msg l) : Nat)]) ∧ Below w.heap.size w w' := by
  have HM := Lib.hid (fun (W : World) (h : Bt W A n c l) => message_any h hn)
  have hml := Sg.msg_lt l
  obtain ⟨m, hm⟩ : ∃ m, m = Sg.msg l := ⟨_, rfl⟩
  rw [← hm] at HM hml ⊢
  have HO := Lib.hid (fun W : World => secret_new ⟨#[110, 111, 110, 99, 101]⟩ [s, m] 2 W (by decide) rfl (by simp) (by
    intro x hx
    simp only [List.mem_cons, List.not_mem_nil, or_false] at hx
    rcases hx with rfl | rfl <;> omega))
  have HO' : Hid (∀ W : World, Calls Tryz.prog 157 #[.string ⟨#[110, 111, 110, 99, 101]⟩, .slice (some ⟨W.heap.size, 0, none⟩) 2 2] (W.alloc (.cells #[.int .u64 (s : Int), .int .u64 (m : Int)] 25)) fun e w' => e = .returned (.int .u64 (Sg.once s m : Nat)) ∧ Below W.heap.size W w') := Lib.hid (fun W => HO.out W)
  clear HO
  have hol := (Sg.once_range s m).2
  have eR : Sg.R s m = Fld.pow 37 (Sg.once s m) := rfl
  have eS : Sg.S s m = Sg.ans (Sg.once s m) (Sg.ask (Sg.R s m) (Bx.pub s) m) s := rfl
  rw [eS]
  obtain ⟨o, ho⟩ : ∃ o, o = Sg.once s m := ⟨_, rfl⟩
  rw [← ho] at HO' hol eR ⊢
  have hrl := Sg.R_lt s m
  have HPW := Lib.hid (fun W : World => power_any 37 o W (by omega) (by omega))
  rw [← eR] at HPW
  obtain ⟨r, hr⟩ : ∃ r, r = Sg.R s m := ⟨_, rfl⟩
  rw [← hr] at HPW hrl ⊢
  have HPB := Lib.hid (fun W : World => spub_any s W hs)
  have hpl := Bx.pub_lt s
  obtain ⟨t, ht⟩ : ∃ t, t = Bx.pub s := ⟨_, rfl⟩
  rw [← ht] at HPB hpl ⊢
  have HA := Lib.hid (fun W : World => asked_any r t m W (by omega) (by omega) (by omega))
  have hel := Sg.ask_lt r t m
  obtain ⟨e, he⟩ : ∃ e, e = Sg.ask r t m := ⟨_, rfl⟩
  rw [← he] at HA hel ⊢
  have HC := Lib.hid (fun (W : World) (Bm Bo Bs : Nat) (h : Sc W Bm Bo Bs o s) => closure_any e o s Bm Bo Bs W (by omega) (by omega) hs h)
  obtain ⟨a, ha⟩ : ∃ a, a = Sg.ans o e s := ⟨_, rfl⟩
  rw [← ha] at HC ⊢
  clear hm ho hr ht he ha eR eS
  have hR0 := blk_new w 33 #[.int .u64 0, .int .u64 0]
  have hk0 : Below w.heap.size w (w.alloc (.cells #[.int .u64 0, .int .u64 0] 33)) := (Below.refl _ w).alloc (Nat.le_refl _) _
  have hs0 : (w.alloc (.cells #[.int .u64 0, .int .u64 0] 33)).heap.size = w.heap.size + 1 := by simp
  have HB0 := Lib.hid (h.new (.cells #[.int .u64 0, .int .u64 0] 33))
  obtain ⟨w0, hw0⟩ : ∃ w0, w0 = w.alloc (.cells #[.int .u64 0, .int .u64 0] 33) := ⟨_, rfl⟩
  clear h hn
  go_enter Tryz.func66, Tryz.ntmps66
  go_wp2_with fail
  rw [← hw0] at hR0 hk0 hs0 HB0 ⊢
  clear hw0
  refine (HM.out _ HB0.out).mono ?_
  rintro r1 w1 ⟨rfl, hb1⟩
  go_wp2_with fail
  refine (HO'.out _).mono ?_
  rintro r1 w2 ⟨rfl, hb2⟩
  go_wp2_with fail
  refine (HPW.out _).mono ?_
  rintro r1 w3 ⟨rfl, hb3⟩
  go_wp2_with fail
  refine (answering_any o s w3).mono ?_
  rintro r1 w4 ⟨⟨Bm, Bo, Bs, rfl, hcl⟩, hb4⟩
  have HCL := Lib.hid hcl
  clear hcl
  go_wp2_with fail
  refine (HPB.out _).mono ?_
  rintro r1 w5 ⟨rfl, hb5⟩
  go_wp2_with fail
  refine (HA.out _).mono ?_
  rintro r1 w6 ⟨rfl, hb6⟩
  have HCC := Lib.hid (HC.out w6 _ _ _ (HCL.out.below (kept_trans hb5 hb6)))
  have h06 : Below w0.heap.size w0 w6 := kept_trans (kept_trans (kept_trans (kept_trans (kept_trans hb1 hb2) hb3) hb4) hb5) hb6
  have hR6 := hR0.below h06 (by omega)
  have hk6 : Below w.heap.size w w6 := hk0.trans (h06.mono (by omega))
  have hs6 := h06.size
  clear hb1 hb2 hb3 hb4 hb5 hb6 hR0 hk0 h06 HCL
  go_wp2_with fail
  refine (HCC.out).mono ?_
  rintro r1 w7 ⟨rfl, hb7⟩
  have hs7 := hb7.size
  have hR7 := hR6.below hb7 (by omega)
  have hk7 : Below w.heap.size w w7 := hk6.trans (hb7.mono (by omega))
  have r0 := hR7.cell 0
  have r1 := hR7.cell 1
  have f0 := hR7.frozen 0
  have f1 := hR7.frozen 1
  have HR8 := Lib.hid (Sg.blk_set2 hR7 (.int .u64 (r : Int)) (.int .u64 (a : Int)))
  have HK8 := Lib.hid (hk7.trans (Sg.below_set2 (w := w7) (R := w.heap.size) (n := w.heap.size) (.int .u64 (r : Int)) (.int .u64 (a : Int)) (Nat.le_refl _) (by omega)))
  clear hb7 hR7 hk7 hR6 hk6
  go_wp2
  have c0 := HR8.out.cell 0
  have c1 := HR8.out.cell 1
  unfold Sg.set2 at c0 c1
  refine bodyPost_ret (v := .agg #[.int .u64 (r : Int), .int .u64 (a : Int)]) (by simp [results, Tryz.results66, go_sem, c0, c1]) rfl ⟨rfl, HK8.out⟩

theorem ispower_any (n : Nat) (w : World) (hn : n < 18446744073709551616) :
    Calls Tryz.prog 69 #[.int .u64 n] w fun e w' => e = .returned (.bool (decide (1 ≤ n ∧ n < 2305843009213693951))) ∧ w = w' := by
  by_cases h0 : n = 0
  · subst h0
    go_enter Tryz.func69, Tryz.ntmps69
    go_wp2
    go_ret
    exact ⟨rfl, rfl⟩
  · have h1 : 0 < n := by omega
    have H := Lib.hid (fun W => ok_any n W)
    have e : decide (1 ≤ n ∧ n < 2305843009213693951) = decide (n < 2305843009213693951) := by
      by_cases h : n < 2305843009213693951
      · rw [decide_eq_true h, decide_eq_true (⟨by omega, h⟩ : 1 ≤ n ∧ n < 2305843009213693951)]
      · rw [decide_eq_false h, decide_eq_false (fun k : 1 ≤ n ∧ n < 2305843009213693951 => h k.2)]
    rw [e]
    generalize decide (n < 2305843009213693951) = b at H ⊢
    clear e h0 hn
    go_enter Tryz.func69, Tryz.ntmps69
    go_wp2_with fail
    refine (H.out _).mono ?_
    rintro e w1 ⟨rfl, rfl⟩
    go_wp2
    go_ret
    exact ⟨rfl, rfl⟩

/-! ### Check: a number that is none of its range -/
set_option maxRecDepth 100000 in
set_option maxHeartbeats 2000000 in
theorem check_not {w : World} {A : Option Addr} {n c : Nat} (t r s : Nat) (ht : t < 18446744073709551616) (hr : r < 18446744073709551616) (hs : s < 18446744073709551616) (h : ¬ Sg.Rng t r s) :
    Calls Tryz.prog 29 #[.int .u64 t, .slice A n c, .agg #[.int .u64 r, .int .u64 s]] w fun e w' => e = .returned (.bool false) ∧ Below w.heap.size w w' := by
  have HT := Lib.hid (fun W => ispower_any t W ht)
  have HR := Lib.hid (fun W => ispower_any r W hr)
  have hall : ¬ (decide (1 ≤ t ∧ t < 2305843009213693951) = true ∧ decide (1 ≤ r ∧ r < 2305843009213693951) = true ∧ s < 2305843009213693950) := by
    rintro ⟨h1, h2, h3⟩
    have h1 := of_decide_eq_true h1
    have h2 := of_decide_eq_true h2
    exact h ⟨h1.1, h1.2, h2.1, h2.2, h3⟩
  generalize decide (1 ≤ t ∧ t < 2305843009213693951) = x at HT hall
  generalize decide (1 ≤ r ∧ r < 2305843009213693951) = y at HR hall
  have hS0 := blk_new w 33 #[.int .u64 (r : Int), .int .u64 (s : Int)]
  have hk0 : Below w.heap.size w (w.alloc (.cells #[.int .u64 (r : Int), .int .u64 (s : Int)] 33)) := (Below.refl _ w).alloc (Nat.le_refl _) _
  obtain ⟨w0, hw0⟩ : ∃ w0, w0 = w.alloc (.cells #[.int .u64 (r : Int), .int .u64 (s : Int)] 33) := ⟨_, rfl⟩
  rw [← hw0] at hS0 hk0
  have r0 := hS0.cell 0
  have r1 := hS0.cell 1
  have HK0 := Lib.hid hk0
  clear hS0 hk0 h
  cases x
  · clear hall
    go_enter Tryz.func29, Tryz.ntmps29
    go_wp2_with fail
    rw [← hw0]
    clear hw0
    refine (HT.out _).mono ?_
    rintro e w1 ⟨rfl, rfl⟩
    go_wp2
    go_ret
    exact ⟨rfl, HK0.out⟩
  · cases y
    · clear hall
      go_enter Tryz.func29, Tryz.ntmps29
      go_wp2_with fail
      rw [← hw0]
      clear hw0
      refine (HT.out _).mono ?_
      rintro e w1 ⟨rfl, rfl⟩
      go_wp2_with fail
      refine (HR.out _).mono ?_
      rintro e w1 ⟨rfl, rfl⟩
      go_wp2
      go_ret
      exact ⟨rfl, HK0.out⟩
    · have hs1 : ¬ s < 2305843009213693950 := fun k => hall ⟨rfl, rfl, k⟩
      have hb : decide ((2305843009213693950 : Int) ≤ (s : Int)) = true := decide_eq_true (by omega)
      clear hall hs1
      go_enter Tryz.func29, Tryz.ntmps29
      go_wp2_with fail
      rw [← hw0]
      clear hw0
      refine (HT.out _).mono ?_
      rintro e w1 ⟨rfl, rfl⟩
      go_wp2_with fail
      refine (HR.out _).mono ?_
      rintro e w1 ⟨rfl, rfl⟩
      go_wp2
      go_ret
      exact ⟨rfl, HK0.out⟩

end Go.Proofs.YtkicjjcangkneaaGreatDoor

/-
  Package sign: Check tells whether a signature whose numbers are of their range is that of the bytes; and so it tells what the document says, of any numbers.
-/
namespace Go.Proofs.YtkicjjcangkneaaGreatDoor
open Go.RowKit

theorem sig_cells {w : World} {B t : Nat} {r s : Value} (h : Blk w B t #[r, s]) : w.cell? ⟨B, 0, none⟩ = some r ∧ w.cell? ⟨B, 1, none⟩ = some s := ⟨h.cell 0, h.cell 1⟩

set_option maxRecDepth 100000 in
set_option maxHeartbeats 4000000 in
theorem check_in {w : World} {A : Option Addr} {n c : Nat} {l : List UInt8} (hb : Bt w A n c l) (hn : n ≤ 1000000) (t r s : Nat) (hg : Sg.Rng t r s) :
    Calls Tryz.prog 29 #[.int .u64 t, .slice A n c, .agg #[.int .u64 r, .int .u64 s]] w fun e w' => e = .returned (.bool (decide (Sg.Eqn t (Sg.msg l) r s))) ∧ Below w.heap.size w w' := by
  obtain ⟨ht1, ht2, hr1, hr2, hs⟩ := hg
  have HM := Lib.hid (fun (W : World) (h : Bt W A n c l) => message_any h hn)
  have hml := Sg.msg_lt l
  have eE : Sg.Eqn t (Sg.msg l) r s = (Fld.pow 37 s = Fld.mul r (Fld.pow t (Sg.ask r t (Sg.msg l)))) := rfl
  have eD : decide (Sg.Eqn t (Sg.msg l) r s) = ((Fld.pow 37 s : Int) == (Fld.mul r (Fld.pow t (Sg.ask r t (Sg.msg l))) : Int)) := by
    by_cases k : Fld.pow 37 s = Fld.mul r (Fld.pow t (Sg.ask r t (Sg.msg l)))
    · rw [decide_eq_true (show Sg.Eqn t (Sg.msg l) r s from k), k]; exact beq_self_eq_true _ |>.symm
    · rw [decide_eq_false (show ¬ Sg.Eqn t (Sg.msg l) r s from k)]
      symm
      rw [beq_eq_false_iff_ne]
      omega
  rw [eD]
  clear eE eD
  obtain ⟨m, hm⟩ : ∃ m, m = Sg.msg l := ⟨_, rfl⟩
  rw [← hm] at HM hml ⊢
  have HT := Lib.hid (fun W => ispower_any t W (by omega))
  have HR := Lib.hid (fun W => ispower_any r W (by omega))
  rw [decide_eq_true (⟨ht1, ht2⟩ : 1 ≤ t ∧ t < 2305843009213693951)] at HT
  rw [decide_eq_true (⟨hr1, hr2⟩ : 1 ≤ r ∧ r < 2305843009213693951)] at HR
  have HA := Lib.hid (fun W : World => asked_any r t m W (by omega) (by omega) (by omega))
  have hel := Sg.ask_lt r t m
  obtain ⟨e, he⟩ : ∃ e, e = Sg.ask r t m := ⟨_, rfl⟩
  rw [← he] at HA hel ⊢
  have HP1 : Hid (∀ W : World, Calls Tryz.prog 70 #[.int .u64 2305843009213693951, .int .u64 37, .int .u64 (s : Int)] W fun e w' => e = .returned (.int .u64 (Fld.pow 37 s : Nat)) ∧ Below W.heap.size W w') := Lib.hid (fun W : World => power_any 37 s W (by omega) (by omega))
  have HP2 := Lib.hid (fun W : World => power_any t e W ht2 (by omega))
  have hp1 := Fld.pow_lt 37 s
  have hp2 := Fld.pow_lt t e
  obtain ⟨p, hp⟩ : ∃ p, p = Fld.pow 37 s := ⟨_, rfl⟩
  obtain ⟨q, hq⟩ : ∃ q, q = Fld.pow t e := ⟨_, rfl⟩
  rw [← hp] at HP1 hp1 ⊢
  rw [← hq] at HP2 hp2 ⊢
  have HX := Lib.hid (fun W : World => mul_any r q W (by omega) (by omega))
  have hxl := Fld.mul_lt r q
  obtain ⟨x, hx⟩ : ∃ x, x = Fld.mul r q := ⟨_, rfl⟩
  rw [← hx] at HX hxl ⊢
  have hb1 : decide ((2305843009213693950 : Int) ≤ (s : Int)) = false := decide_eq_false (by omega)
  obtain ⟨v, hv⟩ : ∃ v : Bool, v = ((p : Int) == (x : Int)) := ⟨_, rfl⟩
  have HV := Lib.hid hv
  rw [← hv]
  clear hm he hp hq hx hv hn hml ht1 hr1
  have hS0 := blk_new w 33 #[.int .u64 (r : Int), .int .u64 (s : Int)]
  have hk0 : Below w.heap.size w (w.alloc (.cells #[.int .u64 (r : Int), .int .u64 (s : Int)] 33)) := (Below.refl _ w).alloc (Nat.le_refl _) _
  have hs0 : (w.alloc (.cells #[.int .u64 (r : Int), .int .u64 (s : Int)] 33)).heap.size = w.heap.size + 1 := by simp
  have HB0 := Lib.hid (hb.new (.cells #[.int .u64 (r : Int), .int .u64 (s : Int)] 33))
  obtain ⟨w0, hw0⟩ : ∃ w0, w0 = w.alloc (.cells #[.int .u64 (r : Int), .int .u64 (s : Int)] 33) := ⟨_, rfl⟩
  rw [← hw0] at hS0 hk0 hs0 HB0
  have r0 := hS0.cell 0
  have r1 := hS0.cell 1
  have HK0 := Lib.hid hk0
  have HS0 := Lib.hid hS0
  have HL := Lib.hid (show w.heap.size < w0.heap.size by omega)
  clear hS0 hk0 hs0 hb
  go_enter Tryz.func29, Tryz.ntmps29
  go_wp2_with fail
  rw [← hw0]
  clear hw0
  refine (HT.out _).mono ?_
  rintro e w1 ⟨rfl, rfl⟩
  go_wp2_with fail
  refine (HR.out _).mono ?_
  rintro e w1 ⟨rfl, rfl⟩
  have k0 : w0.cell? ⟨w.heap.size, 0, none⟩ = some (.int .u64 (r : Int)) ∧ w0.cell? ⟨w.heap.size, 1, none⟩ = some (.int .u64 (s : Int)) := ⟨r0, r1⟩
  have k0' : w0.drew.cell? ⟨w.heap.size, 0, none⟩ = some (.int .u64 (r : Int)) ∧ w0.drew.cell? ⟨w.heap.size, 1, none⟩ = some (.int .u64 (s : Int)) := ⟨r0, r1⟩
  clear r1
  go_wp2_with fail
  clear r0
  go_region_held3 (fun w' : World => w'.cell? ⟨w.heap.size, 0, none⟩ = some (.int .u64 (r : Int)) ∧ w'.cell? ⟨w.heap.size, 1, none⟩ = some (.int .u64 (s : Int)))
    ((first | with_reducible exact k0 | with_reducible exact k0' | with_reducible exact k1 | with_reducible exact k2 | with_reducible exact k3 | with_reducible exact k4))
    (first
      | (go_at_call 70; ((with_reducible refine (HP1.out _).mono ?_); rintro e w1 ⟨rfl, hb1'⟩; have hc1 := below_of_drew hb1'; clear hb1'; have HS1 := Lib.hid (HS0.out.below hc1 HL.out); have HB1 := Lib.hid (HB0.out.below hc1); have k1 := sig_cells HS1.out))
      | (go_at_call 70; ((with_reducible refine (HP2.out _).mono ?_); rintro e w4 ⟨rfl, hc4⟩; have HS4 := Lib.hid (HS3.out.below hc4 HS3.out.lt); have k4 := sig_cells HS4.out))
      | (go_at_call 73; ((with_reducible refine (HM.out _ HB1.out).mono ?_); rintro e w2 ⟨rfl, hc2⟩; have HS2 := Lib.hid (HS1.out.below hc2 HS1.out.lt); have k2 := sig_cells HS2.out))
      | (go_at_call 72; ((with_reducible refine (HA.out _).mono ?_); rintro e w3 ⟨rfl, hc3⟩; have HS3 := Lib.hid (HS2.out.below hc3 HS2.out.lt); have k3 := sig_cells HS3.out))
      | (go_at_call 71; ((with_reducible refine (HX.out _).mono ?_); rintro e w5 ⟨rfl, rfl⟩)))
  go_wp2
  go_ret
  exact ⟨by rw [HV.out]; rfl, HK0.out.trans ((kept_trans (kept_trans (kept_trans hc1 hc2) hc3) hc4).mono (Nat.le_of_lt HL.out))⟩

/-- Check tells what the document says, of any numbers. -/
theorem check_any {w : World} {A : Option Addr} {n c : Nat} {l : List UInt8} (hb : Bt w A n c l) (hn : n ≤ 1000000) (t r s : Nat) (ht : t < 18446744073709551616) (hr : r < 18446744073709551616) (hs : s < 18446744073709551616) :
    Calls Tryz.prog 29 #[.int .u64 t, .slice A n c, .agg #[.int .u64 r, .int .u64 s]] w fun e w' => e = .returned (.bool (Sg.chk t (Sg.msg l) r s)) ∧ Below w.heap.size w w' := by
  by_cases h : Sg.Rng t r s
  · rw [Sg.chk_eqn h]
    exact check_in hb hn t r s h
  · rw [Sg.chk_not h]
    exact check_not t r s ht hr hs h

end Go.Proofs.YtkicjjcangkneaaGreatDoor

/-
  The reference's public keys, signatures and checks of chapter 8 tell the same numbers; what was there is left as it was. Numbers of 64 bits, bytes that can be read, up to 10^6 of them.
-/
namespace Go.Proofs.YtkicjjcangkneaaGreatDoor
open Go.RowKit

namespace Sg
theorem times_odd (N o a k : Nat) : ((o + a) % N + (a + a) % N * k) % N = (o + a * (2 * k + 1)) % N := by
  have e : o + a * (2 * k + 1) = (o + a) + (a + a) * k := by
    rw [Nat.mul_add, Nat.mul_one, Nat.add_mul, ← Nat.mul_assoc, Nat.mul_comm a 2, Nat.two_mul, Nat.add_mul]; omega
  rw [e, Nat.add_mod, Nat.mod_mod, Nat.mul_mod, Nat.mod_mod, ← Nat.mul_mod, ← Nat.add_mod]
theorem times_even (N o a k : Nat) : (o + (a + a) % N * k) % N = (o + a * (2 * k)) % N := by
  have e : o + a * (2 * k) = o + (a + a) * k := by
    rw [← Nat.mul_assoc, Nat.mul_comm a 2, Nat.two_mul]
  rw [e, Nat.add_mod, Nat.mul_mod, Nat.mod_mod, ← Nat.mul_mod, ← Nat.add_mod]
/-- What the loop of the reference's product keeps. -/
def Tm (z o a b : Nat) : Prop := o < 2305843009213693950 ∧ a < 2305843009213693950 ∧ (o + a * b) % 2305843009213693950 = z
theorem Tm.done {z o a : Nat} (h : Tm z o a 0) : o = z := by
  have h1 := h.2.2
  rw [Nat.mul_zero, Nat.add_zero, Nat.mod_eq_of_lt h.1] at h1
  exact h1
theorem Tm.odd {z o a b k : Nat} (h : Tm z o a b) (hb : b = 2 * k + 1) : Tm z ((o + a) % 2305843009213693950) ((a + a) % 2305843009213693950) k :=
  ⟨Nat.mod_lt _ (by omega), Nat.mod_lt _ (by omega), by rw [times_odd, ← hb]; exact h.2.2⟩
theorem Tm.even {z o a b k : Nat} (h : Tm z o a b) (hb : b = 2 * k) : Tm z o ((a + a) % 2305843009213693950) k :=
  ⟨h.1, Nat.mod_lt _ (by omega), by rw [times_even, ← hb]; exact h.2.2⟩
theorem Tm.start (a b : Nat) : Tm (a * b % 2305843009213693950) 0 (a % 2305843009213693950) (b % 2305843009213693950) :=
  ⟨by omega, Nat.mod_lt _ (by omega), by rw [Nat.zero_add, ← Nat.mul_mod]⟩
end Sg

theorem order_any (w : World) : Calls Tryz.prog 163 #[] w fun e w' => e = .returned (.int .u64 2305843009213693950) ∧ w = w' := by
  go_enter Tryz.func163, Tryz.ntmps163
  go_wp2
  go_ret
  exact ⟨rfl, rfl⟩

set_option maxRecDepth 100000 in
set_option maxHeartbeats 1000000 in
theorem times_any (a b : Nat) (w : World) :
    Calls Tryz.prog 161 #[.int .u64 (a : Int), .int .u64 (b : Int)] w fun e w' => e = .returned (.int .u64 (a * b % 2305843009213693950 : Nat)) ∧ w = w' := by
  have hst := Sg.Tm.start a b
  obtain ⟨z, hz⟩ : ∃ z, z = a * b % 2305843009213693950 := ⟨_, rfl⟩
  obtain ⟨a1, ha1⟩ : ∃ x, x = a % 2305843009213693950 := ⟨_, rfl⟩
  obtain ⟨b1, hb1⟩ : ∃ x, x = b % 2305843009213693950 := ⟨_, rfl⟩
  rw [← hz, ← ha1, ← hb1] at hst
  rw [← hz]
  have g1 : (a : Int) % 2305843009213693950 = (a1 : Int) := by omega
  have g2 : (b : Int) % 2305843009213693950 = (b1 : Int) := by omega
  have hbl : b1 < 2305843009213693950 := by omega
  have HO := Lib.hid order_any
  have HST := Lib.hid hst
  clear hst hz ha1 hb1
  go_enter Tryz.func161, Tryz.ntmps161
  go_wp2_with fail
  refine (HO.out _).mono ?_
  rintro e w1 ⟨rfl, rfl⟩
  go_wp2_with fail
  refine (HO.out _).mono ?_
  rintro e w1 ⟨rfl, rfl⟩
  go_wp2
  have G1 := Lib.hid g1
  have G2 := Lib.hid g2
  clear g1 g2
  go_loop [0, 1, 5] (fun sa sb so => ∃ o' a' b' : Nat, so = .int .u64 o' ∧ sa = .int .u64 a' ∧ sb = .int .u64 b' ∧ b' < 2305843009213693950 ∧ Sg.Tm z o' a' b')
    (fun _ sb _ => (intOf sb).toNat)
  case atStart => exact ⟨0, a1, b1, rfl, by first | rfl | rw [G1.out], by first | rfl | rw [G2.out], hbl, HST.out⟩
  case round =>
    obtain ⟨o, x, y, rfl, rfl, rfl, hy, hI⟩ := hrel
    by_cases h0 : y = 0
    · subst h0
      have HI := Lib.hid hI
      clear hI
      go_wp2
      go_ret
      exact ⟨ret_u64 (by rw [HI.out.done]), rfl⟩
    · have hpos : 0 < y := by omega
      have ho := hI.1
      have hx := hI.2.1
      obtain ⟨k, hk⟩ : ∃ k, k = y / 2 := ⟨_, rfl⟩
      obtain ⟨x2, hx2⟩ : ∃ x2, x2 = (x + x) % 2305843009213693950 := ⟨_, rfl⟩
      have g3 : ((x : Int) + (x : Int)) % 2305843009213693950 = (x2 : Int) := by omega
      have g4 : (y : Int) / 2 = (k : Int) := by omega
      have hlt : k < y := by omega
      by_cases h1 : y % 2 = 1
      · have HI := Lib.hid (hI.odd (k := k) (by omega))
        rw [← hx2] at HI
        obtain ⟨o2, ho2⟩ : ∃ o2, o2 = (o + x) % 2305843009213693950 := ⟨_, rfl⟩
        rw [← ho2] at HI
        have g5 : ((o : Int) + (x : Int)) % 2305843009213693950 = (o2 : Int) := by omega
        have g6 : (((y : Int) % 2) == 1) = true := by rw [beq_iff_eq]; omega
        clear hk hx2 ho2 h1 h0 hI
        go_wp2_with (go_at_call 163; refine (HO.out _).mono ?_; rintro e w1 ⟨rfl, rfl⟩)
        go_round
        case rel => exact ⟨o2, x2, k, by first | rfl | rw [g5], by first | rfl | rw [g3], by first | rfl | rw [g4], by omega, HI.out⟩
        case measure => simp [intOf]; omega
      · have HI := Lib.hid (hI.even (k := k) (by omega))
        rw [← hx2] at HI
        have g6 : (((y : Int) % 2) == 1) = false := by rw [beq_eq_false_iff_ne]; omega
        clear hk hx2 h1 h0 hI
        go_wp2_with (go_at_call 163; refine (HO.out _).mono ?_; rintro e w1 ⟨rfl, rfl⟩)
        go_round
        case rel => exact ⟨o, x2, k, rfl, by first | rfl | rw [g3], by first | rfl | rw [g4], by omega, HI.out⟩
        case measure => simp [intOf]; omega

theorem r8pub_any (s : Nat) (w : World) (hs : s < 18446744073709551616) :
    Calls Tryz.prog 64 #[.int .u64 s] w fun e w' => e = .returned (.int .u64 (Bx.pub s : Nat)) ∧ Below w.heap.size w w' := by
  have H := Lib.hid (rpow_any 37 s w hs)
  go_enter Tryz.func64, Tryz.ntmps64
  go_wp2_with fail
  refine (H.out).mono ?_
  rintro e w1 ⟨rfl, hb1⟩
  go_wp2
  go_ret
  exact ⟨rfl, hb1⟩

theorem r8m_any {w : World} {A : Option Addr} {n c : Nat} {l : List UInt8} (h : Bt w A n c l) (hn : n ≤ 1000000) :
    Calls Tryz.prog 160 #[.slice A n c] w fun e w' => e = .returned (.int .u64 (Sg.msg l : Nat)) ∧ Below w.heap.size w w' := by
  have H := Lib.hid (rbytes_any ⟨#[115, 105, 103, 110, 101, 100]⟩ l A n c w (by decide) h.len hn h.rd)
  clear h hn
  go_enter Tryz.func160, Tryz.ntmps160
  go_wp2_with fail
  refine (H.out).mono ?_
  rintro e w1 ⟨rfl, hb1⟩
  go_wp2
  go_ret
  exact ⟨rfl, hb1⟩

theorem r8e_any {w : World} {A : Option Addr} {n c : Nat} {l : List UInt8} (h : Bt w A n c l) (hn : n ≤ 1000000) (r t : Nat) :
    Calls Tryz.prog 162 #[.int .u64 (r : Int), .int .u64 (t : Int), .slice A n c] w fun e w' => e = .returned (.int .u64 (Sg.ask r t (Sg.msg l) : Nat)) ∧ Below w.heap.size w w' := by
  have HM := Lib.hid (r8m_any h hn)
  obtain ⟨m, hm⟩ : ∃ m, m = Sg.msg l := ⟨_, rfl⟩
  rw [← hm] at HM ⊢
  have HA : Hid (∀ W : World, Calls Tryz.prog 133 #[.string ⟨#[115, 105, 103]⟩, .slice (some ⟨W.heap.size, 0, none⟩) 3 3] (W.alloc (.cells #[.int .u64 (r : Int), .int .u64 (t : Int), .int .u64 (m : Int)] 25)) fun e w' => e = .returned (.int .u64 (Sg.ask r t m : Nat)) ∧ Below W.heap.size W w') :=
    Lib.hid (fun W => rof_new ⟨#[115, 105, 103]⟩ [r, t, m] 3 W (by decide) rfl (by simp))
  clear h hn hm
  go_enter Tryz.func162, Tryz.ntmps162
  go_wp2_with fail
  refine (HM.out).mono ?_
  rintro e w1 ⟨rfl, hb1⟩
  go_wp2_with fail
  refine (HA.out _).mono ?_
  rintro e w2 ⟨rfl, hb2⟩
  go_wp2
  go_ret
  exact ⟨rfl, kept_trans hb1 hb2⟩

end Go.Proofs.YtkicjjcangkneaaGreatDoor

/-
  The reference's Sign and Check of chapter 8 tell the same; what was there is left as it was. Numbers of 64 bits, bytes that can be read, up to 10^6 of them.
-/
namespace Go.Proofs.YtkicjjcangkneaaGreatDoor
open Go.RowKit

set_option maxRecDepth 100000 in
set_option maxHeartbeats 2000000 in
theorem r8sign_any {w : World} {A : Option Addr} {n c : Nat} {l : List UInt8} (h : Bt w A n c l) (hn : n ≤ 1000000) (s : Nat) (hs : s < 18446744073709551616) :
    Calls Tryz.prog 68 #[.int .u64 s, .slice A n c] w fun e w' => e = .returned (.agg #[.int .u64 (Sg.R s (Sg.msg l) : Nat), .int .u64 (Sg.S s (Sg.msg l) : Nat)]) ∧ Below w.heap.size w w' := by
  have HM := Lib.hid (fun (W : World) (h : Bt W A n c l) => r8m_any h hn)
  have HA := Lib.hid (fun (W : World) (h : Bt W A n c l) (r t : Nat) => r8e_any h hn r t)
  have hml := Sg.msg_lt l
  obtain ⟨m, hm⟩ : ∃ m, m = Sg.msg l := ⟨_, rfl⟩
  rw [← hm] at HM HA hml ⊢
  have HO' : Hid (∀ W : World, Calls Tryz.prog 67 #[.string ⟨#[110, 111, 110, 99, 101]⟩, .slice (some ⟨W.heap.size, 0, none⟩) 2 2] (W.alloc (.cells #[.int .u64 (s : Int), .int .u64 (m : Int)] 25)) fun e w' => e = .returned (.int .u64 (Sg.once s m : Nat)) ∧ Below W.heap.size W w') :=
    Lib.hid (fun W => (rsecret_any ⟨#[110, 111, 110, 99, 101]⟩ [s, m] _ 2 2 _ (by decide) rfl (by omega) (Bx.news W [s, m])).mono fun _ _ ⟨h, hb⟩ => ⟨h, Bx.below_new hb⟩)
  have hol := (Sg.once_range s m).2
  have eR : Sg.R s m = Fld.pow 37 (Sg.once s m) := rfl
  have eS : Sg.S s m = Sg.ans (Sg.once s m) (Sg.ask (Sg.R s m) (Bx.pub s) m) s := rfl
  rw [eS]
  obtain ⟨o, ho⟩ : ∃ o, o = Sg.once s m := ⟨_, rfl⟩
  rw [← ho] at HO' hol eR ⊢
  have hrl := Sg.R_lt s m
  have HPW : Hid (∀ W : World, Calls Tryz.prog 149 #[.int .u64 37, .int .u64 (o : Int)] W fun e w' => e = .returned (.int .u64 (Fld.pow 37 o : Nat)) ∧ Below W.heap.size W w') := Lib.hid (fun W : World => rpow_any 37 o W (by omega))
  rw [← eR] at HPW
  obtain ⟨r, hr⟩ : ∃ r, r = Sg.R s m := ⟨_, rfl⟩
  rw [← hr] at HPW hrl ⊢
  have HPB := Lib.hid (fun W : World => r8pub_any s W hs)
  have hpl := Bx.pub_lt s
  obtain ⟨t, ht⟩ : ∃ t, t = Bx.pub s := ⟨_, rfl⟩
  rw [← ht] at HPB hpl ⊢
  have hel := Sg.ask_lt r t m
  have HA' := Lib.hid (fun (W : World) (h : Bt W A n c l) => HA.out W h r t)
  obtain ⟨e, he⟩ : ∃ e, e = Sg.ask r t m := ⟨_, rfl⟩
  rw [← he] at HA' hel ⊢
  have HTM := Lib.hid (fun W : World => times_any e s W)
  have hxl : e * s % 2305843009213693950 < 2305843009213693950 := Nat.mod_lt _ (by omega)
  have hans : Sg.ans o e s = (o + e * s % 2305843009213693950) % 2305843009213693950 := rfl
  obtain ⟨x, hx⟩ : ∃ x, x = e * s % 2305843009213693950 := ⟨_, rfl⟩
  rw [← hx] at HTM hxl hans
  obtain ⟨a, ha⟩ : ∃ a, a = Sg.ans o e s := ⟨_, rfl⟩
  rw [← ha] at hans ⊢
  have g1 : ((o : Int) + (x : Int)) % 2305843009213693950 = (a : Int) := by omega
  have HORD := Lib.hid order_any
  clear hm ho hr ht he hx ha hans eR eS HA
  have hR0 := blk_new w 33 #[.int .u64 0, .int .u64 0]
  have hk0 : Below w.heap.size w (w.alloc (.cells #[.int .u64 0, .int .u64 0] 33)) := (Below.refl _ w).alloc (Nat.le_refl _) _
  have hs0 : (w.alloc (.cells #[.int .u64 0, .int .u64 0] 33)).heap.size = w.heap.size + 1 := by simp
  have HB0 := Lib.hid (h.new (.cells #[.int .u64 0, .int .u64 0] 33))
  obtain ⟨w0, hw0⟩ : ∃ w0, w0 = w.alloc (.cells #[.int .u64 0, .int .u64 0] 33) := ⟨_, rfl⟩
  clear h hn
  go_enter Tryz.func68, Tryz.ntmps68
  go_wp2_with fail
  rw [← hw0] at hR0 hk0 hs0 HB0 ⊢
  clear hw0
  refine (HM.out _ HB0.out).mono ?_
  rintro r1 w1 ⟨rfl, hb1⟩
  go_wp2_with fail
  refine (HO'.out _).mono ?_
  rintro r1 w2 ⟨rfl, hb2⟩
  go_wp2_with fail
  refine (HPW.out _).mono ?_
  rintro r1 w3 ⟨rfl, hb3⟩
  go_wp2_with fail
  refine (HPB.out _).mono ?_
  rintro r1 w4 ⟨rfl, hb4⟩
  have HB4 := Lib.hid (HB0.out.below (kept_trans (kept_trans (kept_trans hb1 hb2) hb3) hb4))
  go_wp2_with fail
  refine (HA'.out _ HB4.out).mono ?_
  rintro r1 w5 ⟨rfl, hb5⟩
  go_wp2_with fail
  refine (HTM.out _).mono ?_
  rintro r1 w6 ⟨rfl, rfl⟩
  go_wp2_with fail
  refine (HORD.out _).mono ?_
  rintro r1 w6 ⟨rfl, rfl⟩
  have h05 : Below w0.heap.size w0 w5 := kept_trans (kept_trans (kept_trans (kept_trans hb1 hb2) hb3) hb4) hb5
  have hR5 := hR0.below h05 (by omega)
  have hk5 : Below w.heap.size w w5 := hk0.trans (h05.mono (by omega))
  have hs5 := h05.size
  have r0 := hR5.cell 0
  have r1 := hR5.cell 1
  have f0 := hR5.frozen 0
  have f1 := hR5.frozen 1
  have HR8 := Lib.hid (Sg.blk_set2 hR5 (.int .u64 (r : Int)) (.int .u64 (a : Int)))
  have HK8 := Lib.hid (hk5.trans (Sg.below_set2 (w := w5) (R := w.heap.size) (n := w.heap.size) (.int .u64 (r : Int)) (.int .u64 (a : Int)) (Nat.le_refl _) (by omega)))
  clear hb1 hb2 hb3 hb4 hb5 hR0 hk0 h05 hR5 hk5
  go_wp2
  have c0 := HR8.out.cell 0
  have c1 := HR8.out.cell 1
  unfold Sg.set2 at c0 c1
  first
    | refine bodyPost_ret (v := .agg #[.int .u64 (r : Int), .int .u64 (a : Int)]) (by simp [results, Tryz.results68, go_sem, c0, c1]) rfl ⟨rfl, HK8.out⟩
    | (rw [g1]; refine bodyPost_ret (v := .agg #[.int .u64 (r : Int), .int .u64 (a : Int)]) (by simp [results, Tryz.results68, go_sem, c0, c1]) rfl ⟨rfl, HK8.out⟩)

/-! ### Check -/
end Go.Proofs.YtkicjjcangkneaaGreatDoor
