/-
  Package sign: what is signed, and what is taken, is the document's; what was there is left as it was. Secrets and public keys of 64 bits, bytes that can be read, up to 2^40 of them.
-/
import Derived.Test.YtdiacpadbndncaaSgc
import Derived.Test.YtdiacpadbndncaaSeg
import Derived.Deep.RegionHeld3
namespace Go.Proofs.Ytdiacpadbndncaa
open Go.RowKit

namespace Sg
/-- A record of two numbers that is written whole. -/
def set2 (w : World) (R : Nat) (a b : Value) : World := (w.setCell ⟨R, 0, none⟩ a).setCell ⟨R, 1, none⟩ b
theorem blk_set2 {w : World} {R t : Nat} {p q : Value} (h : Blk w R t #[p, q]) (a b : Value) : Blk (set2 w R a b) R t #[a, b] := by
  have h1 := (h.set_ 0 a).set_ 1 b
  exact h1
theorem grown_set2 (w : World) (R : Nat) (a b : Value) : w.grownBy (set2 w R a b) (some R) := only_set (only_set (only_refl _ _) 0 a) 1 b
theorem cell_set2 {w : World} {R B o : Nat} {v : Value} (h : w.cell? ⟨B, o, none⟩ = some v) (hB : B ≠ R) (a b : Value) : (set2 w R a b).cell? ⟨B, o, none⟩ = some v :=
  (World.cell?_of_block (Below.heap_setCell _ ⟨R, 1, none⟩ b B hB)).trans ((World.cell?_of_block (Below.heap_setCell _ ⟨R, 0, none⟩ a B hB)).trans h)
theorem below_set2 {w : World} {R n : Nat} (a b : Value) (h : n ≤ R) (hn : n ≤ w.heap.size) : Below n w (set2 w R a b) := below_only (grown_set2 w R a b) h hn
end Sg

theorem secret_new (s : ByteArray) (l : List Nat) (n : Nat) (w : World) (hs : s.size ≤ 1000000) (hn : n = l.length) (hl : l.length ≤ 1000000) (hx : ∀ x ∈ l, x < 18446744073709551616) :
    Calls Try.prog 26 #[.string s, .slice (some ⟨w.heap.size, 0, none⟩) n n] (w.alloc (.cells (u64s l).toArray 22)) fun e w' => e = .returned (.int .u64 (Hsh.secret s.data.toList l : Nat)) ∧ Below w.heap.size w w' :=
  (secret_any s _ n n l _ (by omega) hn (by omega) hx (Bx.news w l)).mono fun _ _ ⟨h, hb⟩ => ⟨h, Bx.below_new hb⟩

theorem spub_any (s : Nat) (w : World) (hs : s < 18446744073709551616) :
    Calls Try.prog 12 #[.int .u64 s] w fun e w' => e = .returned (.int .u64 (Bx.pub s : Nat)) ∧ Below w.heap.size w w' := by
  have H := Lib.hid (pub_any s w hs)
  go_enter Try.func12, Try.ntmps12
  go_wp2_with fail
  refine (H.out).mono ?_
  rintro e w1 ⟨rfl, hb1⟩
  go_wp2
  go_ret
  exact ⟨rfl, hb1⟩

theorem message_any {w : World} {A : Option Addr} {n c : Nat} {l : List UInt8} (h : Bt w A n c l) (hn : n ≤ 1000000) :
    Calls Try.prog 25 #[.slice A n c] w fun e w' => e = .returned (.int .u64 (Sg.msg l : Nat)) ∧ Below w.heap.size w w' := by
  have H := Lib.hid (bytes_any ⟨#[115, 105, 103, 110, 101, 100]⟩ l A n c w h.len h.cap (by omega) (by decide) h.rd)
  clear h hn
  go_enter Try.func25, Try.ntmps25
  go_wp2_with fail
  refine (H.out).mono ?_
  rintro e w1 ⟨rfl, hb1⟩
  go_wp2
  go_ret
  exact ⟨rfl, hb1⟩

theorem asked_any (r t m : Nat) (w : World) (hr : r < 18446744073709551616) (ht : t < 18446744073709551616) (hm : m < 18446744073709551616) :
    Calls Try.prog 29 #[.int .u64 r, .int .u64 t, .int .u64 m] w fun e w' => e = .returned (.int .u64 (Sg.ask r t m : Nat)) ∧ Below w.heap.size w w' := by
  have h := of_new ⟨#[115, 105, 103]⟩ [r, t, m] 3 w (by decide) rfl (by simp) (by
    intro x hx
    simp only [List.mem_cons, List.not_mem_nil, or_false] at hx
    rcases hx with rfl | rfl | rfl <;> assumption)
  have H := Lib.hid h
  clear h
  go_enter Try.func29, Try.ntmps29
  go_wp2_with fail
  refine (H.out).mono ?_
  rintro e w1 ⟨rfl, hb1⟩
  go_wp2
  go_ret
  exact ⟨rfl, hb1⟩

/-! ### the closure that reckons modulo P - 1 -/
/-- The three variables that it has caught. -/
def Sc (w : World) (Bm Bo Bs o s : Nat) : Prop :=
  Bm < w.heap.size ∧ Bo < w.heap.size ∧ Bs < w.heap.size ∧ w.cell? ⟨Bm, 0, none⟩ = some (.int .u64 2305843009213693950) ∧ w.cell? ⟨Bo, 0, none⟩ = some (.int .u64 o) ∧ w.cell? ⟨Bs, 0, none⟩ = some (.int .u64 s)
theorem Sc.below {w w' : World} {Bm Bo Bs o s : Nat} (h : Sc w Bm Bo Bs o s) (hb : Below w.heap.size w w') : Sc w' Bm Bo Bs o s := by
  obtain ⟨h1, h2, h3, c1, c2, c3⟩ := h
  have hs := hb.size
  exact ⟨by omega, by omega, by omega, (hb.cell (p := ⟨Bm, 0, none⟩) h1).trans c1, (hb.cell (p := ⟨Bo, 0, none⟩) h2).trans c2, (hb.cell (p := ⟨Bs, 0, none⟩) h3).trans c3⟩
/-- What its cells are. -/
def Cs (w : World) (Bm Bo Bs o s : Nat) : Prop := w.cell? ⟨Bm, 0, none⟩ = some (.int .u64 2305843009213693950) ∧ w.cell? ⟨Bo, 0, none⟩ = some (.int .u64 o) ∧ w.cell? ⟨Bs, 0, none⟩ = some (.int .u64 s)

set_option maxRecDepth 100000 in
set_option maxHeartbeats 2000000 in
theorem closure_any (e o s Bm Bo Bs : Nat) (w : World) (he : e < 18446744073709551616) (ho : o < 18446744073709551616) (hs : s < 18446744073709551616) (h : Sc w Bm Bo Bs o s) :
    Calls Try.prog 42 #[.int .u64 e, .pointer (some ⟨Bm, 0, none⟩), .pointer (some ⟨Bo, 0, none⟩), .pointer (some ⟨Bs, 0, none⟩)] w fun r w' =>
      r = .returned (.int .u64 (Sg.ans o e s : Nat)) ∧ Below w.heap.size w w' := by
  have HP : Hid (∀ W : World, Calls Try.prog 41 #[.int .u64 2305843009213693950, .int .u64 (e : Int), .int .u64 (s : Int)] W fun r w' => r = .returned (.int .u64 (e * s % 2305843009213693950 : Nat)) ∧ Below W.heap.size W w') :=
    Lib.hid fun W => prod_any 2305843009213693950 e s W (by omega) he hs
  have hxl : e * s % 2305843009213693950 < 2305843009213693950 := Nat.mod_lt _ (by omega)
  have hans : (o + e * s % 2305843009213693950) % 2305843009213693950 = Sg.ans o e s := rfl
  obtain ⟨x, hx⟩ : ∃ x, x = e * s % 2305843009213693950 := ⟨_, rfl⟩
  rw [← hx] at HP hxl hans
  have HS : Hid (∀ W : World, Calls Try.prog 43 #[.int .u64 2305843009213693950, .int .u64 (o : Int), .int .u64 (x : Int)] W fun r w' => r = .returned (.int .u64 ((o + x) % 2305843009213693950 : Nat)) ∧ Below W.heap.size W w') :=
    Lib.hid fun W => sum_any 2305843009213693950 o x W (by omega) ho (by omega)
  rw [hans] at HS
  clear hx hans hxl
  have hc0 := h
  have k0 : w.cell? ⟨Bm, 0, none⟩ = some (.int .u64 2305843009213693950) ∧ w.cell? ⟨Bo, 0, none⟩ = some (.int .u64 (o : Int)) ∧ w.cell? ⟨Bs, 0, none⟩ = some (.int .u64 (s : Int)) := ⟨h.2.2.2.1, h.2.2.2.2.1, h.2.2.2.2.2⟩
  have k0' : w.drew.cell? ⟨Bm, 0, none⟩ = some (.int .u64 2305843009213693950) ∧ w.drew.cell? ⟨Bo, 0, none⟩ = some (.int .u64 (o : Int)) ∧ w.drew.cell? ⟨Bs, 0, none⟩ = some (.int .u64 (s : Int)) := k0
  have HC0 := Lib.hid hc0
  clear hc0 h
  go_enter Try.func42, Try.ntmps42
  go_wp2_with fail
  go_region_held3 (fun w' : World => w'.cell? ⟨Bm, 0, none⟩ = some (.int .u64 2305843009213693950) ∧ w'.cell? ⟨Bo, 0, none⟩ = some (.int .u64 (o : Int)) ∧ w'.cell? ⟨Bs, 0, none⟩ = some (.int .u64 (s : Int)))
    ((first | with_reducible exact k0 | with_reducible exact k0' | with_reducible exact k1 | with_reducible exact k2))
    (first
      | (go_at_call 41; ((with_reducible refine (HP.out _).mono ?_); rintro r w1 ⟨rfl, hb1'⟩; have hb1 := below_of_drew hb1'; clear hb1'; have HC1 := Lib.hid (HC0.out.below hb1); have k1 := And.intro HC1.out.2.2.2.1 (And.intro HC1.out.2.2.2.2.1 HC1.out.2.2.2.2.2)))
      | (go_at_call 43; ((with_reducible refine (HS.out _).mono ?_); rintro r w2 ⟨rfl, hb2⟩; have k2' := (HC1.out.below hb2); have k2 := And.intro k2'.2.2.2.1 (And.intro k2'.2.2.2.2.1 k2'.2.2.2.2.2); clear k2')))
  go_wp2
  go_ret
  exact ⟨rfl, kept_trans hb1 hb2⟩

theorem answering_new (o s : Nat) (w : World) :
    Calls Try.prog 28 #[.int .u64 o, .int .u64 s] w fun r w' =>
      r = .returned (.func (.func 42) #[] #[.pointer (some ⟨w.heap.size + 2, 0, none⟩), .pointer (some ⟨w.heap.size, 0, none⟩), .pointer (some ⟨w.heap.size + 1, 0, none⟩)]) ∧
        w' = ((w.alloc (.cells #[.int .u64 o] 22)).alloc (.cells #[.int .u64 s] 22)).alloc (.cells #[.int .u64 2305843009213693950] 41) := by
  go_enter Try.func28, Try.ntmps28
  go_wp2
  go_ret
  exact ⟨rfl, rfl⟩
theorem answering_any (o s : Nat) (w : World) :
    Calls Try.prog 28 #[.int .u64 o, .int .u64 s] w fun r w' =>
      (∃ Bm Bo Bs, r = .returned (.func (.func 42) #[] #[.pointer (some ⟨Bm, 0, none⟩), .pointer (some ⟨Bo, 0, none⟩), .pointer (some ⟨Bs, 0, none⟩)]) ∧ Sc w' Bm Bo Bs o s) ∧ Below w.heap.size w w' := by
  refine (answering_new o s w).mono ?_
  rintro r w' ⟨rfl, rfl⟩
  have h1 := (blk_new w 22 #[.int .u64 (o : Int)])
  have h2 := (blk_new (w.alloc (.cells #[.int .u64 (o : Int)] 22)) 22 #[.int .u64 (s : Int)])
  have h3 := (blk_new ((w.alloc (.cells #[.int .u64 (o : Int)] 22)).alloc (.cells #[.int .u64 (s : Int)] 22)) 41 #[.int .u64 2305843009213693950])
  have s1 : (w.alloc (.cells #[.int .u64 (o : Int)] 22)).heap.size = w.heap.size + 1 := by simp
  have s2 : ((w.alloc (.cells #[.int .u64 (o : Int)] 22)).alloc (.cells #[.int .u64 (s : Int)] 22)).heap.size = w.heap.size + 2 := by simp
  rw [s1] at h2
  rw [s2] at h3
  have h1' := blk_alloc (blk_alloc h1 (.cells #[.int .u64 (s : Int)] 22)) (.cells #[.int .u64 2305843009213693950] 41)
  have h2' := blk_alloc h2 (.cells #[.int .u64 2305843009213693950] 41)
  exact ⟨⟨_, _, _, rfl, h3.lt, h1'.lt, h2'.lt, h3.cell 0, h1'.cell 0, h2'.cell 0⟩, (((Below.refl _ w).alloc (Nat.le_refl _) _).alloc (by simp) _).alloc (by simp; omega) _⟩

end Go.Proofs.Ytdiacpadbndncaa
