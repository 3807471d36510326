/-
  Boxes: the contracts as the statements' walks want them, values as letters; the document's example holds.
-/
import Derived.Test.YtokmghojdmpacaaBxd
namespace Go.Proofs.Ytokmghojdmpacaa
open Go.RowKit

theorem sec_v (n : Nat) (w : World) (hn : n < 18446744073709551616) :
    Calls Try.prog 10 #[.int .u64 n] w fun e w' => (∃ a : Nat, e = .returned (.int .u64 (a : Nat)) ∧ 1 ≤ a ∧ a ≤ 2305843009213693949) ∧ Below w.heap.size w w' :=
  (rsecret_any n w hn).mono fun _ _ ⟨⟨a, h1, h2, h⟩, e⟩ => ⟨⟨a, h, h1, h2⟩, e ▸ Below.refl _ _⟩
theorem num_v (n : Nat) (w : World) :
    Calls Try.prog 11 #[.int .u64 n] w fun e w' => (∃ a : Nat, e = .returned (.int .u64 (a : Nat)) ∧ a < 2305843009213693951) ∧ Below w.heap.size w w' :=
  (rnum_any n w).mono fun _ _ ⟨h, e⟩ => ⟨⟨_, h, Fld.num_lt n⟩, e ▸ Below.refl _ _⟩

theorem make_is {t o v e b g : Nat} (h : Bx.Mk t o v e b g) (w : World) (ht : t < 18446744073709551616) (ho : o < 18446744073709551616) (hv : v < 18446744073709551616) :
    Calls Try.prog 14 #[.int .u64 t, .int .u64 o, .int .u64 v] w fun r w' =>
      r = .returned (.agg #[.int .u64 (t : Int), .int .u64 (e : Int), .int .u64 (b : Int), .int .u64 (g : Int)]) ∧ Below w.heap.size w w' := by
  obtain ⟨rfl, rfl, rfl⟩ := h
  exact make_new t o v w ht ho hv
theorem make_v (t o v : Nat) (w : World) (ht : t < 18446744073709551616) (ho : o < 18446744073709551616) (hv : v < 18446744073709551616) :
    Calls Try.prog 14 #[.int .u64 t, .int .u64 o, .int .u64 v] w fun r w' =>
      (∃ e b g, r = .returned (.agg #[.int .u64 (t : Int), .int .u64 (e : Nat), .int .u64 (b : Nat), .int .u64 (g : Nat)]) ∧ Bx.Mk t o v e b g) ∧ Below w.heap.size w w' :=
  (make_new t o v w ht ho hv).mono fun _ _ ⟨h, hb⟩ => ⟨⟨_, _, _, h, rfl, rfl, rfl⟩, hb⟩
theorem rmake_is {t o v e b g : Nat} (h : Bx.Mk t o v e b g) (w : World) (ho : o < 18446744073709551616) :
    Calls Try.prog 15 #[.int .u64 t, .int .u64 o, .int .u64 v] w fun r w' =>
      r = .returned (.agg #[.int .u64 (t : Int), .int .u64 (e : Int), .int .u64 (b : Int), .int .u64 (g : Int)]) ∧ Below w.heap.size w w' := by
  obtain ⟨rfl, rfl, rfl⟩ := h
  exact rmake_new t o v w ho
theorem open_is (s t e b g : Nat) (x y : Int) (w : World) (hs : s < 18446744073709551616) (he : e < 18446744073709551616) (hb : b < 2305843009213693951) (hx : ((Bx.opn s t e b g).1 : Int) = x) (hy : ((Bx.opn s t e b g).2 : Int) = y) :
    Calls Try.prog 18 #[.int .u64 s, .agg #[.int .u64 (t : Int), .int .u64 (e : Int), .int .u64 (b : Int), .int .u64 (g : Int)]] w fun r w' =>
      r = .returned (.tuple #[.int .u64 x, .int .i64 y]) ∧ Below w.heap.size w w' := by
  subst hx hy
  exact open_any s t e b g w hs he hb
/-- A box that was made for a secret's public key is opened. -/
theorem open_mk {s t o v e b g : Nat} (h : Bx.Mk t o v e b g) (hp : t = Bx.pub s) (w : World) (hs : s < 18446744073709551616) (hv : v < 2305843009213693951) :
    Calls Try.prog 18 #[.int .u64 s, .agg #[.int .u64 (t : Int), .int .u64 (e : Int), .int .u64 (b : Int), .int .u64 (g : Int)]] w fun r w' =>
      r = .returned (.tuple #[.int .u64 (v : Int), .int .i64 0]) ∧ Below w.heap.size w w' := by
  subst hp
  have h1 := Bx.mk_open hv h
  have h2 := h.lt
  exact open_is s _ e b g v 0 w hs (by omega) h2.2.1 (by rw [h1]) (by rw [h1]; rfl)
/-- For another public key it is told so. -/
theorem open_ne (s t e b g : Nat) (hp : t ≠ Bx.pub s) (w : World) (hs : s < 18446744073709551616) :
    Calls Try.prog 18 #[.int .u64 s, .agg #[.int .u64 (t : Int), .int .u64 (e : Int), .int .u64 (b : Int), .int .u64 (g : Int)]] w fun r w' =>
      r = .returned (.tuple #[.int .u64 0, .int .i64 20]) ∧ Below w.heap.size w w' := open_key s t e b g w hs hp

/-- Compared: the same, or not. -/
theorem box_is (t e b g t' e' b' g' : Nat) (x : Bool) (h : Bx.alike t e b g t' e' b' g' = x) (w : World) :
    (binOp .eql 25 (.agg #[.int .u64 (t : Int), .int .u64 (e : Int), .int .u64 (b : Int), .int .u64 (g : Int)]) (.agg #[.int .u64 (t' : Int), .int .u64 (e' : Int), .int .u64 (b' : Int), .int .u64 (g' : Int)])).run Try.prog w = .ok (.bool x) w := by
  subst h
  exact box_eql _ _ _ _ _ _ _ _ w
theorem box_isnt (t e b g t' e' b' g' : Nat) (x : Bool) (h : (!Bx.alike t e b g t' e' b' g') = x) (w : World) :
    (binOp .neq 25 (.agg #[.int .u64 (t : Int), .int .u64 (e : Int), .int .u64 (b : Int), .int .u64 (g : Int)]) (.agg #[.int .u64 (t' : Int), .int .u64 (e' : Int), .int .u64 (b' : Int), .int .u64 (g' : Int)])).run Try.prog w = .ok (.bool x) w := by
  subst h
  exact box_neq _ _ _ _ _ _ _ _ w
theorem Bx.alike_self (t e b g : Nat) : Bx.alike t e b g t e b g = true := by simp [Bx.alike]

/-- A box that lies in a variable R. -/
def In4 (w : World) (R t e b g : Nat) : Prop := R < w.heap.size ∧ Blk w R 25 #[.int .u64 (t : Int), .int .u64 (e : Int), .int .u64 (b : Int), .int .u64 (g : Int)]
theorem In4.below {w w' : World} {R t e b g : Nat} (h : In4 w R t e b g) (hb : Below w.heap.size w w') : In4 w' R t e b g :=
  ⟨Nat.lt_of_lt_of_le h.1 hb.size, h.2.below hb h.1⟩
theorem In4.new {w : World} {R t e b g : Nat} (h : In4 w R t e b g) (o : Obj) : In4 (w.alloc o) R t e b g := h.below ((Below.refl _ w).alloc (Nat.le_refl _) _)
theorem in4_new (w : World) (t e b g : Nat) : In4 (w.alloc (.cells #[.int .u64 (t : Int), .int .u64 (e : Int), .int .u64 (b : Int), .int .u64 (g : Int)] 25)) w.heap.size t e b g :=
  ⟨by simp, blk_new _ _ _⟩
theorem In4.at4 {w : World} {R t e b g : Nat} (h : In4 w R t e b g) : At4 w R t e b g := box_at h.2

set_option maxRecDepth 100000 in
set_option maxHeartbeats 1000000 in
theorem lives6_any (w : World) : Calls Try.prog 16 #[] w fun e w' => e = .returned (.bool true) ∧ Below w.heap.size w w' := by
  have hpv : ∀ n : Nat, n < 18446744073709551616 → Bx.pub n = Fld.pw 64 37 n := fun n h => Fld.pow_pw 37 n h
  have h1 : Bx.pub 1 = 37 := by rw [hpv 1 (by omega)]; decide +kernel
  have h2 : Bx.pub 2 = 1369 := by rw [hpv 2 (by omega)]; decide +kernel
  have h56 : Bx.pub 5 ≠ Bx.pub 6 := by rw [hpv 5 (by omega), hpv 6 (by omega)]; decide +kernel
  have hp := Bx.pub_lt 5
  have P1 : Hid (∀ W, Calls Try.prog 12 #[.int .u64 1] W fun e w' => e = .returned (.int .u64 37) ∧ Below W.heap.size W w') := Lib.hid fun W => by
    have h := pub_any 1 W (by omega)
    rw [h1] at h; exact h
  have P2 : Hid (∀ W, Calls Try.prog 12 #[.int .u64 2] W fun e w' => e = .returned (.int .u64 1369) ∧ Below W.heap.size W w') := Lib.hid fun W => by
    have h := pub_any 2 W (by omega)
    rw [h2] at h; exact h
  have P5 : Hid (∀ W, Calls Try.prog 12 #[.int .u64 5] W fun e w' => e = .returned (.int .u64 (Bx.pub 5 : Nat)) ∧ Below W.heap.size W w') := Lib.hid fun W => pub_any 5 W (by omega)
  have O5 : Hid (∀ W e b g, Bx.Mk (Bx.pub 5) 7 9 e b g → Calls Try.prog 18 #[.int .u64 5, .agg #[.int .u64 (Bx.pub 5 : Nat), .int .u64 (e : Int), .int .u64 (b : Int), .int .u64 (g : Int)]] W fun r w' =>
      r = .returned (.tuple #[.int .u64 9, .int .i64 0]) ∧ Below W.heap.size W w') := Lib.hid fun W e b g h => open_mk h rfl W (by omega) (by omega)
  have O6 : Hid (∀ W e b g, Calls Try.prog 18 #[.int .u64 6, .agg #[.int .u64 (Bx.pub 5 : Nat), .int .u64 (e : Nat), .int .u64 (b : Nat), .int .u64 (g : Nat)]] W fun r w' =>
      r = .returned (.tuple #[.int .u64 0, .int .i64 20]) ∧ Below W.heap.size W w') := Lib.hid fun W e b g => open_ne 6 _ e b g h56 W (by omega)
  have MK : Hid (∀ W, Calls Try.prog 14 #[.int .u64 (Bx.pub 5 : Nat), .int .u64 7, .int .u64 9] W fun r w' =>
      (∃ e b g, r = .returned (.agg #[.int .u64 (Bx.pub 5 : Nat), .int .u64 (e : Nat), .int .u64 (b : Nat), .int .u64 (g : Nat)]) ∧ Bx.Mk (Bx.pub 5) 7 9 e b g) ∧ Below W.heap.size W w') := Lib.hid fun W => make_v (Bx.pub 5) 7 9 W (by omega) (by omega) (by omega)
  obtain ⟨p, hp'⟩ : ∃ p, p = Bx.pub 5 := ⟨_, rfl⟩
  rw [← hp'] at P5 O5 O6 MK
  clear hp' h1 h2 h56 hp hpv
  go_enter Try.func16, Try.ntmps16
  go_wp2_with fail
  refine (P5.out _).mono ?_
  rintro r w1 ⟨rfl, hb1⟩
  go_wp2_with fail
  refine (MK.out _).mono ?_
  rintro r w2 ⟨⟨e, b, g, rfl, hm⟩, hb2⟩
  have HM := Lib.hid hm
  clear hm
  have hN := in4_new w2 p e b g
  have k2 : Below w.heap.size w (w2.alloc (.cells #[.int .u64 (p : Int), .int .u64 (e : Int), .int .u64 (b : Int), .int .u64 (g : Int)] 25)) := kept_trans (kept_trans hb1 hb2) ((Below.refl _ _).alloc (Nat.le_refl _) _)
  have HN := Lib.hid hN
  clear hb1 hb2 hN
  go_wp2_with fail
  refine (O5.out _ _ _ _ HM.out).mono ?_
  rintro r w3 ⟨rfl, hb3⟩
  have k3 := k2.trans (hb3.mono k2.size)
  have hN3 := HN.out.below hb3
  obtain ⟨c0, c1, c2, c3⟩ := hN3.at4
  clear k2 hb3 HN HM hN3
  go_wp2_with fail
  refine (O6.out _ _ _ _).mono ?_
  rintro r w4 ⟨rfl, hb4⟩
  have k4 := k3.trans (hb4.mono k3.size)
  clear k3 hb4 c0 c1 c2 c3
  go_wp2_with fail
  refine (P1.out _).mono ?_
  rintro r w5 ⟨rfl, hb5⟩
  have k5 := k4.trans (hb5.mono k4.size)
  clear k4 hb5
  go_wp2_with fail
  refine (P2.out _).mono ?_
  rintro r w6 ⟨rfl, hb6⟩
  have k6 := k5.trans (hb6.mono k5.size)
  clear k5 hb6
  go_wp2
  go_ret
  exact ⟨rfl, k6⟩

end Go.Proofs.Ytokmghojdmpacaa
