/-
  SignOwns: the walk, over natural numbers and lists of bytes. No condition.
-/
import Derived.Test.YtdiacpadbndncaaSgn
import Derived.Deep.DeepCutAuto
namespace Go.Proofs.Ytdiacpadbndncaa
open Go.RowKit

theorem three_new (w : World) (a b c : Value) : ∀ j u, [a, b, c][j]? = some u → (w.alloc (.cells #[a, b, c] 5)).cell? ((⟨w.heap.size, 0, none⟩ : Addr).add j) = some u := by
  intro j u hu
  rw [Addr.add_lit, (blk_new w 5 #[a, b, c]).cell (0 + j), Nat.zero_add]
  simpa using hu
theorem own_some {w : World} {B n : Nat} {A : Option Addr} {k c : Nat} {xs : List Value} (h : w.ownsRow B 5 1 (.slice A k c) n xs) (hn : 0 < n) : ∃ g, A = some ⟨g, 0, none⟩ := by
  rcases h.2 with ⟨_, h0⟩ | ⟨g, cp, _, h, _⟩
  · omega
  · injection h with h _ _
    exact ⟨g, h⟩

set_option maxRecDepth 100000 in
set_option maxHeartbeats 4000000 in
theorem owns_walk (n : Nat) (A : Option Addr) (m c : Nat) (l : List UInt8) (w : World) (hA : Bt w A m c l) :
    Calls Try.prog 9 #[.int .u64 n, .slice A m c] w fun e w' => e = .returned (.bool true) ∧ Below w.heap.size w w' := by
  obtain ⟨i0, hi, hz0, hz1, hz2⟩ := info_parts info_u8
  have HFEW := Lib.hid (few_any l A m c 20 w hA.len hA.cap (by omega) hA.rd hA.nil)
  have HN := Lib.hid hA.len
  have HI := Lib.hid hi
  have HZ0 := Lib.hid hz0
  have HZ1 := Lib.hid hz1
  have HZ2 := Lib.hid hz2
  clear hA hi hz0 hz1 hz2
  go_enter Try.func9, Try.ntmps9
  go_wp2_with fail
  refine (HFEW.out).mono ?_
  rintro e w1 ⟨A1, c1, rfl, hrow, hb1⟩
  have HK := Lib.hid (show min m 20 = (l.take 20).length by rw [List.length_take, ← HN.out, Nat.min_comm])
  obtain ⟨k, hk⟩ : ∃ k, k = min m 20 := ⟨_, rfl⟩
  have hk5 : k ≤ 20 := by omega
  rw [← hk] at HK hrow ⊢
  have HROW := Lib.hid hrow
  obtain ⟨N, hN⟩ : ∃ N, N = l.take 20 ++ [1, 2, 3] := ⟨_, rfl⟩
  have hNl : k + 3 = N.length := by rw [hN, List.length_append, ← HK.out]; rfl
  have HSN := Lib.hid (show u8s (l.take 20) ++ [.int .u8 1, .int .u8 2, .int .u8 3] = u8s N by rw [hN, u8s_app]; rfl)
  have HNL := Lib.hid hNl
  clear hk hrow hN hNl
  go_upto_region 2 with (at_builtin; refine wpList_append_own _ rfl _ _ 23 rfl w.heap.size 5 i0 (.int .u8 0) 1 1 Try.underlying23 HI.out HZ0.out HZ1.out HZ2.out rfl (by decide) _ _ _ rfl (HROW.out.alloc _) ⟨w1.heap.size, 0, none⟩ 3 3 [.int .u8 1, .int .u8 2, .int .u8 3] rfl rfl (three_new _ _ _ _) (by simp [Value.oneCell']) (by unfold maxLen; omega) (by omega) (by have := hb1.size; simp; omega) ?_; intro v' w2 hown' hgrow _; have HOWN := Lib.hid hown'; clear hown')
  obtain ⟨g1, cap1, rfl⟩ := ownsRow_succ HOWN.out
  have hg2 : (w1.alloc (.cells #[.int .u8 1, .int .u8 2, .int .u8 3] 5)).grownBy w2 (Value.slice A1 k c1).ownBlock := hgrow
  have hb2 : Below w.heap.size w w2 := hb1.trans (((Below.refl _ w1).alloc hb1.size _).grown hg2 (by simp; have := hb1.size; omega) (fun j e => (HROW.out.lt j e).1))
  have hrow2 : w2.ownsRow w.heap.size 5 1 (.slice (some ⟨g1, 0, none⟩) (k + 3) cap1) (k + 3) (u8s N) := HSN.out ▸ HOWN.out
  have hbt := Bt.of_own hrow2
  obtain ⟨K, hK⟩ : ∃ K, K = k + 3 := ⟨_, rfl⟩
  have hcap := hbt.cap
  have hkk := hbt.take (k := k) (by omega)
  have hKi : (K : Int) - 3 = (k : Int) := by omega
  have hK20 : K ≤ 23 := by omega
  have hKk : k ≤ K := by omega
  rw [← hK] at hbt hcap
  rw [← hK]
  have F2 := Lib.hid hbt
  have G2 := Lib.hid hkk
  have hsl := slice_head 23 (by kernel_rfl) (fun W => by kernel_rfl) (some ⟨g1, 0, none⟩) K cap1 k (by omega)
  have hcv := conv_rd N (some ⟨g1, 0, none⟩) K cap1 _ w2 hbt.len hbt.rd
  have k2 := hb2
  clear hgrow hg2 hrow2 hbt hkk hK HSN HNL HK HROW HOWN hb1 hb2 HI HZ0 HZ1 HZ2 HN HFEW
  go_wp2_with fail
  refine (sec8_v n _).mono ?_
  rintro e w3 ⟨⟨a, ha1, ha2, rfl⟩, hb3⟩
  have k3 := kept_trans k2 hb3
  have F3 := Lib.hid (F2.out.below hb3)
  have G3 := Lib.hid (G2.out.below hb3)
  clear hb3 k2 F2 G2
  clear hcv hsl hKi
  go_wp2_with fail
  refine (sign_v a (G3.out) (by omega) ha2).mono ?_
  rintro e w4 ⟨⟨r, x, rfl, hby⟩, hb4⟩
  have k4 := kept_trans k3 hb4
  have F4 := Lib.hid (F3.out.below hb4)
  have G4 := Lib.hid (G3.out.below hb4)
  clear hb4 k3 F3 G3
  have hp := Bx.pub_lt a
  have HCK := hby.chk
  have hr := hby.2.2.1
  have hx := hby.2.2.2
  have HP := Lib.hid (fun W : World => spub_any a W (by omega))
  obtain ⟨p, ep⟩ : ∃ p, p = Bx.pub a := ⟨_, rfl⟩
  rw [← ep] at hp HCK HP
  have HC := Lib.hid (fun (W : World) (h : Bt W (some ⟨g1, 0, none⟩) k cap1 (N.take k)) => check_v p r x true h (by omega) (by omega) (by omega) (by omega) HCK)
  have HL := Lib.hid lives8_any
  have HCV := Lib.hid (fun (W : World) (h : Bt W (some ⟨g1, 0, none⟩) K cap1 N) => conv_rd N (some ⟨g1, 0, none⟩) K cap1 _ W h.len h.rd)
  clear hby HCK ep ha1 ha2 hr hx hp
  go_wp2_with fail
  obtain ⟨w5, hw5⟩ : ∃ W, W = w4.alloc (.cells #[.int .u64 (r : Int), .int .u64 (x : Int)] 28) := ⟨_, rfl⟩
  have F5' := F4.out.new (.cells #[.int .u64 (r : Int), .int .u64 (x : Int)] 28)
  have G5' := G4.out.new (.cells #[.int .u64 (r : Int), .int .u64 (x : Int)] 28)
  have V5' := in2_new w4 r x
  have k5' := kept_trans k4 ((Below.refl _ w4).alloc (Nat.le_refl _) (.cells #[.int .u64 (r : Int), .int .u64 (x : Int)] 28))
  have hz5 : w4.heap.size ≤ (w4.alloc (.cells #[.int .u64 (r : Int), .int .u64 (x : Int)] 28)).heap.size := by simp
  rw [← hw5] at F5' G5' V5' k5' hz5
  have F5 := Lib.hid F5'
  have G5 := Lib.hid G5'
  have V5 := Lib.hid V5'
  have k5 := k5'
  clear F5' G5' V5' k5' k4 F4 G4
  rw [← hw5]
  clear hw5
  have q0 : w5.cell? ⟨w4.heap.size, 0, none⟩ = some (.int .u64 (r : Int)) ∧ w5.cell? ⟨w4.heap.size, 1, none⟩ = some (.int .u64 (x : Int)) ∧ (convert 23 9 (.slice (some ⟨g1, 0, none⟩) K cap1)).run Try.prog w5 = .ok (.string ⟨N.toArray⟩) w5 := ⟨V5.out.cells.1, V5.out.cells.2, HCV.out _ F5.out⟩
  have q0' : w5.drew.cell? ⟨w4.heap.size, 0, none⟩ = some (.int .u64 (r : Int)) ∧ w5.drew.cell? ⟨w4.heap.size, 1, none⟩ = some (.int .u64 (x : Int)) ∧ (convert 23 9 (.slice (some ⟨g1, 0, none⟩) K cap1)).run Try.prog w5.drew = .ok (.string ⟨N.toArray⟩) w5.drew := ⟨V5.out.cells.1, V5.out.cells.2, HCV.out _ (F5.out.below (below_to_drew (Below.refl _ _)))⟩
  go_region_held3 (fun w' : World => w'.cell? ⟨w4.heap.size, 0, none⟩ = some (.int .u64 (r : Int)) ∧ w'.cell? ⟨w4.heap.size, 1, none⟩ = some (.int .u64 (x : Int)) ∧ (convert 23 9 (.slice (some ⟨g1, 0, none⟩) K cap1)).run Try.prog w' = .ok (.string ⟨N.toArray⟩) w')
    ((first | with_reducible exact q0 | with_reducible exact q0' | with_reducible exact q1 | with_reducible exact q2 | with_reducible exact q3))
    (first
      | (go_at_call 12; ((with_reducible refine (HP.out _).mono ?_); rintro e w6 ⟨rfl, hb6'⟩; have hb6 := below_of_drew hb6'; clear hb6'; have F6 := Lib.hid (F5.out.below hb6); have G6 := Lib.hid (G5.out.below hb6); have V6 := Lib.hid (V5.out.below hb6); have q1 : w6.cell? ⟨w4.heap.size, 0, none⟩ = some (.int .u64 (r : Int)) ∧ w6.cell? ⟨w4.heap.size, 1, none⟩ = some (.int .u64 (x : Int)) ∧ (convert 23 9 (.slice (some ⟨g1, 0, none⟩) K cap1)).run Try.prog w6 = .ok (.string ⟨N.toArray⟩) w6 := ⟨V6.out.cells.1, V6.out.cells.2, HCV.out _ F6.out⟩))
      | (go_at_call 18; ((with_reducible refine (HC.out _ G6.out).mono ?_); rintro e w7 ⟨rfl, hb7⟩; have F7 := Lib.hid (F6.out.below hb7); have G7 := Lib.hid (G6.out.below hb7); have V7 := Lib.hid (V6.out.below hb7); have q2 : w7.cell? ⟨w4.heap.size, 0, none⟩ = some (.int .u64 (r : Int)) ∧ w7.cell? ⟨w4.heap.size, 1, none⟩ = some (.int .u64 (x : Int)) ∧ (convert 23 9 (.slice (some ⟨g1, 0, none⟩) K cap1)).run Try.prog w7 = .ok (.string ⟨N.toArray⟩) w7 := ⟨V7.out.cells.1, V7.out.cells.2, HCV.out _ F7.out⟩))
      | (go_at_call 16; ((with_reducible refine (HL.out _).mono ?_); rintro e w8 ⟨rfl, hb8⟩; have F8 := Lib.hid (F7.out.below hb8); have G8 := Lib.hid (G7.out.below hb8); have V8 := Lib.hid (V7.out.below hb8); have q3 : w8.cell? ⟨w4.heap.size, 0, none⟩ = some (.int .u64 (r : Int)) ∧ w8.cell? ⟨w4.heap.size, 1, none⟩ = some (.int .u64 (x : Int)) ∧ (convert 23 9 (.slice (some ⟨g1, 0, none⟩) K cap1)).run Try.prog w8 = .ok (.string ⟨N.toArray⟩) w8 := ⟨V8.out.cells.1, V8.out.cells.2, HCV.out _ F8.out⟩)))
  have k8 := kept_trans (kept_trans (kept_trans k5 hb6) hb7) hb8
  go_wp2
  go_ret
  exact ⟨rfl, k8⟩

end Go.Proofs.Ytdiacpadbndncaa
