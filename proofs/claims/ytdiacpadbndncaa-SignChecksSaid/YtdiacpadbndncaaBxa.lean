/-
  Boxes as numbers: public keys, keys, masks and tags, and what a box tells a secret; small laws on worlds that the walks of package box want. No condition but what is said.
-/
import Derived.Test.YtdiacpadbndncaaLives
import Derived.Laws.StructEq
namespace Go.Proofs.Ytdiacpadbndncaa
open Go.RowKit

namespace Bx
def pub (s : Nat) : Nat := Fld.pow 37 s
def mask (k : Nat) : Nat := Hsh.of [109, 97, 115, 107] [k]
def tag (k b t : Nat) : Nat := Hsh.of [116, 97, 103] [k, b, t]
theorem pub_lt (s : Nat) : pub s < 2305843009213693951 := Fld.pow_lt _ _
theorem mask_lt (k : Nat) : mask k < 2305843009213693951 := Hsh.of_lt _ _
theorem tag_lt (k b t : Nat) : tag k b t < 2305843009213693951 := Hsh.of_lt _ _
/-- What a box tells a secret: a number, and an error. -/
def opn (s t e b g : Nat) : Nat × Nat :=
  if t = pub s then if g = tag (Fld.pow e s) b t then (Fld.sub b (mask (Fld.pow e s)), 0) else (0, 21) else (0, 20)
/-- The box of a number v for a public key t, by once o: e, b, g are its numbers. -/
def Mk (t o v e b g : Nat) : Prop := e = pub o ∧ b = Fld.add v (mask (Fld.pow t o)) ∧ g = tag (Fld.pow t o) b t

theorem small {n : Nat} (h : n < 2305843009213693951) : n % Fld.P = n := Nat.mod_eq_of_lt h
theorem add_sub (b m : Nat) (hb : b < 2305843009213693951) : Fld.add (Fld.sub b m) m = b := by
  unfold Fld.add Fld.sub
  have hP : Fld.P = 2305843009213693951 := rfl
  rw [hP]; omega
theorem sub_add (v m : Nat) (hv : v < 2305843009213693951) : Fld.sub (Fld.add v m) m = v := by
  unfold Fld.add Fld.sub
  have hP : Fld.P = 2305843009213693951 := rfl
  rw [hP]; omega
theorem sub_adds (v u m : Nat) : Fld.sub (Fld.add v m) (Fld.add u m) = Fld.sub v u := by
  unfold Fld.add Fld.sub
  have hP : Fld.P = 2305843009213693951 := rfl
  rw [hP]; omega
theorem add_inj (v u m : Nat) (hv : v < 2305843009213693951) (hu : u < 2305843009213693951) : Fld.add v m = Fld.add u m ↔ v = u := by
  unfold Fld.add
  have hP : Fld.P = 2305843009213693951 := rfl
  rw [hP]; omega
/-- Of the numbers under a tag each one tells, modulo the prime. -/
theorem tag_key (k k' b t : Nat) : tag k b t = tag k' b t ↔ k % Fld.P = k' % Fld.P := Hsh.of_one [116, 97, 103] [] [b, t] k k'
theorem tag_body (k b b' t : Nat) : tag k b t = tag k b' t ↔ b % Fld.P = b' % Fld.P := Hsh.of_one [116, 97, 103] [k] [t] b b'
/-- Diffie and Hellman. -/
theorem same_key (a o : Nat) : Fld.pow (pub o) a = Fld.pow (pub a) o := by
  unfold pub Fld.pow
  rw [← Nat.pow_mod, ← Nat.pow_mod, ← Nat.pow_mul, ← Nat.pow_mul, Nat.mul_comm]
theorem pub_add (a c : Nat) : Fld.mul (pub a) (pub c) = Fld.pow 37 (a + c) := by
  unfold pub Fld.mul Fld.pow
  rw [← Nat.mul_mod, ← Nat.pow_add]
theorem pub_mod (n : Nat) : Fld.pow 37 (n % 2305843009213693950) = Fld.pow 37 n := by
  have h37 : (37 : Nat) ^ Fld.N % Fld.P = 1 := Fld.root_one
  have e : n = Fld.N * (n / Fld.N) + n % Fld.N := (Nat.div_add_mod n Fld.N).symm
  have h := Fld.one_mod 37 (Fld.N * (n / Fld.N)) (n % Fld.N) (Fld.ones 37 Fld.N h37 _)
  rw [← e] at h
  exact h.symm
theorem pub_ne (s : Nat) : pub s ≠ 0 := Fld.pow_ne s
theorem mk_open {a o v e b g : Nat} (hv : v < 2305843009213693951) (h : Mk (pub a) o v e b g) : opn a (pub a) e b g = (v, 0) := by
  obtain ⟨rfl, rfl, rfl⟩ := h
  unfold opn
  rw [if_pos rfl, same_key, if_pos rfl, sub_add v _ hv]
theorem Mk.lt {t o v e b g : Nat} (h : Mk t o v e b g) : e < 2305843009213693951 ∧ b < 2305843009213693951 ∧ g < 2305843009213693951 := by
  obtain ⟨rfl, rfl, rfl⟩ := h
  exact ⟨pub_lt _, Fld.add_lt _ _, tag_lt _ _ _⟩
theorem Mk.only {t o v e b g e' b' g' : Nat} (h : Mk t o v e b g) (h' : Mk t o v e' b' g') : e = e' ∧ b = b' ∧ g = g' := by
  obtain ⟨rfl, rfl, rfl⟩ := h
  obtain ⟨rfl, rfl, rfl⟩ := h'
  exact ⟨rfl, rfl, rfl⟩
theorem opn_lt (s t e b g : Nat) : (opn s t e b g).1 < 2305843009213693951 ∧ (opn s t e b g).2 ≤ 21 := by
  unfold opn
  split
  · split
    · exact ⟨Fld.sub_lt _ _, by omega⟩
    · exact ⟨by omega, by omega⟩
  · exact ⟨by omega, by omega⟩

theorem rd_blk {w : World} {g t : Nat} {cs : List Value} (h : Blk w g t cs.toArray) : Rd w.heap.size w (some ⟨g, 0, none⟩) cs := fun _ =>
  ⟨g, 0, rfl, h.lt, fun i u hu => by rw [Nat.zero_add, h.cell i]; simpa using hu⟩
theorem news (w : World) (l : List Nat) : Rd (w.alloc (.cells (u64s l).toArray 22)).heap.size (w.alloc (.cells (u64s l).toArray 22)) (some ⟨w.heap.size, 0, none⟩) (u64s l) := rd_blk (blk_new w 22 _)
theorem below_new {w1 w2 : World} {o : Obj} (h : Below (w1.alloc o).heap.size (w1.alloc o) w2) : Below w1.heap.size w1 w2 := ((Below.refl _ w1).alloc (Nat.le_refl _) _).trans (h.mono (by simp))
/-- A record of four numbers that is written whole. -/
def set4 (w : World) (R : Nat) (a b c d : Value) : World := (((w.setCell ⟨R, 0, none⟩ a).setCell ⟨R, 1, none⟩ b).setCell ⟨R, 2, none⟩ c).setCell ⟨R, 3, none⟩ d
theorem blk_set4 {w : World} {R t : Nat} {p q r s : Value} (h : Blk w R t #[p, q, r, s]) (a b c d : Value) : Blk (set4 w R a b c d) R t #[a, b, c, d] := by
  have h1 := (((h.set_ 0 a).set_ 1 b).set_ 2 c).set_ 3 d
  exact h1
theorem grown_set4 (w : World) (R : Nat) (a b c d : Value) : w.grownBy (set4 w R a b c d) (some R) := only_set (only_set (only_set (only_set (only_refl _ _) 0 a) 1 b) 2 c) 3 d
theorem cell_set4 {w : World} {R B o : Nat} {v : Value} (h : w.cell? ⟨B, o, none⟩ = some v) (hB : B ≠ R) (a b c d : Value) : (set4 w R a b c d).cell? ⟨B, o, none⟩ = some v :=
  (World.cell?_of_block (Below.heap_setCell _ ⟨R, 3, none⟩ d B hB)).trans ((World.cell?_of_block (Below.heap_setCell _ ⟨R, 2, none⟩ c B hB)).trans
    ((World.cell?_of_block (Below.heap_setCell _ ⟨R, 1, none⟩ b B hB)).trans ((World.cell?_of_block (Below.heap_setCell _ ⟨R, 0, none⟩ a B hB)).trans h)))
theorem below_set4 {w : World} {R n : Nat} (a b c d : Value) (h : n ≤ R) (hn : n ≤ w.heap.size) : Below n w (set4 w R a b c d) := below_only (grown_set4 w R a b c d) h hn
end Bx

/-! ### sums of a label and numbers that are laid for the call -/
theorem of_new (s : ByteArray) (l : List Nat) (n : Nat) (w : World) (hs : s.size ≤ 1000000) (hn : n = l.length) (hl : l.length ≤ 1000000) (hx : ∀ x ∈ l, x < 18446744073709551616) :
    Calls Try.prog 40 #[.string s, .slice (some ⟨w.heap.size, 0, none⟩) n n] (w.alloc (.cells (u64s l).toArray 22)) fun e w' => e = .returned (.int .u64 (Hsh.of s.data.toList l : Nat)) ∧ Below w.heap.size w w' :=
  (of_any s _ n n l _ (by omega) hn (by omega) hx (Bx.news w l)).mono fun _ _ ⟨h, hb⟩ => ⟨h, Bx.below_new hb⟩
theorem rof_new (s : ByteArray) (l : List Nat) (n : Nat) (w : World) (hs : s.size ≤ 1000000) (hn : n = l.length) (hl : l.length ≤ 1000000) :
    Calls Try.prog 44 #[.string s, .slice (some ⟨w.heap.size, 0, none⟩) n n] (w.alloc (.cells (u64s l).toArray 22)) fun e w' => e = .returned (.int .u64 (Hsh.of s.data.toList l : Nat)) ∧ Below w.heap.size w w' :=
  (rof_any s l _ n n _ hs hn (by omega) (Bx.news w l)).mono fun _ _ ⟨h, hb⟩ => ⟨h, Bx.below_new hb⟩

/-! ### public keys and masks -/
theorem pub_any (s : Nat) (w : World) (hs : s < 18446744073709551616) :
    Calls Try.prog 21 #[.int .u64 s] w fun e w' => e = .returned (.int .u64 (Bx.pub s : Nat)) ∧ Below w.heap.size w w' := by
  have h := pow_any 37 s w (by omega) hs
  have H := Lib.hid h
  clear h
  go_enter Try.func21, Try.ntmps21
  go_wp2_with fail
  refine (H.out).mono ?_
  rintro e w1 ⟨rfl, hb1⟩
  go_wp2
  go_ret
  exact ⟨rfl, hb1⟩

end Go.Proofs.Ytdiacpadbndncaa
