/-
  SignTakes: the walk, over natural numbers and lists of bytes. No condition.
-/
import Derived.Test.YtdiacpadbndncaaSgi
namespace Go.Proofs.Ytdiacpadbndncaa
open Go.RowKit

theorem By.same {s m r x r' x' : Nat} (h : By s m r x) (h' : By s m r' x') : r' = r ∧ x' = x := ⟨h'.1.trans h.1.symm, h'.2.1.trans h.2.1.symm⟩
theorem Sg.alike_self (a b : Nat) : Sg.alike a b a b = true := decide_eq_true ⟨rfl, rfl⟩
/-- The same once more. -/
theorem sign_again {w : World} {A : Option Addr} {n c : Nat} {l : List UInt8} (s r x : Nat) (h : Bt w A n c l) (hn : n ≤ 1000000) (hs : s ≤ 2305843009213693949) (hby : By s (Sg.msg l) r x) :
    Calls Try.prog 14 #[.int .u64 s, .slice A n c] w fun e w' => e = .returned (.agg #[.int .u64 (r : Int), .int .u64 (x : Int)]) ∧ Below w.heap.size w w' :=
  (sign_v s h hn hs).mono fun _ _ ⟨⟨r', x', h, k⟩, hb⟩ => ⟨by rw [h, (hby.same k).1, (hby.same k).2], hb⟩

set_option maxRecDepth 100000 in
set_option maxHeartbeats 4000000 in
theorem takes_walk (n : Nat) (A : Option Addr) (m c : Nat) (l : List UInt8) (w : World) (hA : Bt w A m c l) :
    Calls Try.prog 5 #[.int .u64 n, .slice A m c] w fun e w' => e = .returned (.bool true) ∧ Below w.heap.size w w' := by
  have k0 : Below w.heap.size w w := Below.refl _ _
  have F0 := Lib.hid hA
  clear hA
  go_enter Try.func5, Try.ntmps5
  go_wp2_with fail
  refine (few_v (F0.out) 60 (by omega)).mono ?_
  rintro e w1 ⟨⟨A1, n1, c1, rfl, h, hm1⟩, hb1⟩
  have k1 := kept_trans k0 hb1
  have G1 := Lib.hid h
  clear hb1 k0 F0 h
  go_wp2_with fail
  refine (sec8_v n _).mono ?_
  rintro e w2 ⟨⟨a, ha1, ha2, rfl⟩, hb2⟩
  have k2 := kept_trans k1 hb2
  have G2 := Lib.hid (G1.out.below hb2)
  clear hb2 k1 G1
  go_wp2_with fail
  refine (sign_v a (G2.out) (by omega) ha2).mono ?_
  rintro e w3 ⟨⟨r, x, rfl, hby⟩, hb3⟩
  have k3 := kept_trans k2 hb3
  have G3 := Lib.hid (G2.out.below hb3)
  clear hb3 k2 G2
  have HBY := Lib.hid hby
  have hp := Bx.pub_lt a
  have HCK := hby.chk
  have hr := hby.2.2.1
  have hx := hby.2.2.2
  have HP := Lib.hid (fun W : World => spub_any a W (by omega))
  obtain ⟨p, ep⟩ : ∃ p, p = Bx.pub a := ⟨_, rfl⟩
  rw [← ep] at hp HCK HP
  have HC := Lib.hid (fun (W : World) (h : Bt W A1 n1 c1 (l.take 60)) => check_v p r x true h (by omega) (by omega) (by omega) (by omega) HCK)
  have HS := Lib.hid (fun (W : World) (h : Bt W A1 n1 c1 (l.take 60)) => sign_again a r x h (by omega) ha2 HBY.out)
  have HL := Lib.hid lives8_any
  have HE := Lib.hid (fun W : World => (sig_eql r x r x W).trans (by rw [Sg.alike_self]))
  have HG := Lib.hid (fun (W : World) (y z : Operand) => sig_free .eql y z #[.int .u64 (r : Int), .int .u64 (x : Int)] #[.int .u64 (r : Int), .int .u64 (x : Int)] W)
  clear hby HCK ep ha1 ha2 hr hx hp
  go_wp2_with fail
  obtain ⟨w4, hw4⟩ : ∃ W, W = w3.alloc (.cells #[.int .u64 (r : Int), .int .u64 (x : Int)] 28) := ⟨_, rfl⟩
  have G4' := G3.out.new (.cells #[.int .u64 (r : Int), .int .u64 (x : Int)] 28)
  have V4' := in2_new w3 r x
  have k4' := kept_trans k3 ((Below.refl _ w3).alloc (Nat.le_refl _) (.cells #[.int .u64 (r : Int), .int .u64 (x : Int)] 28))
  have hz4 : w3.heap.size ≤ (w3.alloc (.cells #[.int .u64 (r : Int), .int .u64 (x : Int)] 28)).heap.size := by simp
  rw [← hw4] at G4' V4' k4' hz4
  have G4 := Lib.hid G4'
  have V4 := Lib.hid V4'
  have k4 := k4'
  clear G4' V4' k4' k3 G3
  rw [← hw4]
  clear hw4
  have he := HE.out
  have hg := HG.out
  have q0 : w4.cell? ⟨w3.heap.size, 0, none⟩ = some (.int .u64 (r : Int)) ∧ w4.cell? ⟨w3.heap.size, 1, none⟩ = some (.int .u64 (x : Int)) := ⟨V4.out.cells.1, V4.out.cells.2⟩
  have q0' : w4.drew.cell? ⟨w3.heap.size, 0, none⟩ = some (.int .u64 (r : Int)) ∧ w4.drew.cell? ⟨w3.heap.size, 1, none⟩ = some (.int .u64 (x : Int)) := q0
  go_region_held3 (fun w' : World => w'.cell? ⟨w3.heap.size, 0, none⟩ = some (.int .u64 (r : Int)) ∧ w'.cell? ⟨w3.heap.size, 1, none⟩ = some (.int .u64 (x : Int)))
    ((first | with_reducible exact q0 | with_reducible exact q0' | with_reducible exact q1 | with_reducible exact q2 | with_reducible exact q3 | with_reducible exact q4))
    (first
      | (go_at_call 12; ((with_reducible refine (HP.out _).mono ?_); rintro e w5 ⟨rfl, hb5'⟩; have hb5 := below_of_drew hb5'; clear hb5'; have G5 := Lib.hid (G4.out.below hb5); have V5 := Lib.hid (V4.out.below hb5); have q1 : w5.cell? ⟨w3.heap.size, 0, none⟩ = some (.int .u64 (r : Int)) ∧ w5.cell? ⟨w3.heap.size, 1, none⟩ = some (.int .u64 (x : Int)) := ⟨V5.out.cells.1, V5.out.cells.2⟩))
      | (go_at_call 18; ((with_reducible refine (HC.out _ G5.out).mono ?_); rintro e w6 ⟨rfl, hb6⟩; have G6 := Lib.hid (G5.out.below hb6); have V6 := Lib.hid (V5.out.below hb6); have q2 : w6.cell? ⟨w3.heap.size, 0, none⟩ = some (.int .u64 (r : Int)) ∧ w6.cell? ⟨w3.heap.size, 1, none⟩ = some (.int .u64 (x : Int)) := ⟨V6.out.cells.1, V6.out.cells.2⟩))
      | (go_at_call 14; ((with_reducible refine (HS.out _ G6.out).mono ?_); rintro e w7 ⟨rfl, hb7⟩; have G7 := Lib.hid (G6.out.below hb7); have V7 := Lib.hid (V6.out.below hb7); have q3 : w7.cell? ⟨w3.heap.size, 0, none⟩ = some (.int .u64 (r : Int)) ∧ w7.cell? ⟨w3.heap.size, 1, none⟩ = some (.int .u64 (x : Int)) := ⟨V7.out.cells.1, V7.out.cells.2⟩))
      | (go_at_call 16; ((with_reducible refine (HL.out _).mono ?_); rintro e w8 ⟨rfl, hb8⟩; have G8 := Lib.hid (G7.out.below hb8); have V8 := Lib.hid (V7.out.below hb8); have q4 : w8.cell? ⟨w3.heap.size, 0, none⟩ = some (.int .u64 (r : Int)) ∧ w8.cell? ⟨w3.heap.size, 1, none⟩ = some (.int .u64 (x : Int)) := ⟨V8.out.cells.1, V8.out.cells.2⟩)))
  have k8 := (kept_trans (kept_trans (kept_trans (kept_trans k4 hb5) hb6) hb7) hb8)
  go_wp2
  go_ret
  exact ⟨rfl, k8⟩

end Go.Proofs.Ytdiacpadbndncaa
