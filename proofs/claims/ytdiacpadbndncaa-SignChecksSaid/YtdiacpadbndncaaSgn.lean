/-
  SignPubs: the walk, over natural numbers and lists of bytes. No condition.
-/
import Derived.Test.YtdiacpadbndncaaSgm
namespace Go.Proofs.Ytdiacpadbndncaa
open Go.RowKit

/-- The four secrets that are tried. -/
theorem four_secrets (a z : Nat) (ha : a ≤ 2305843009213693949) (hz : z ≤ 2305843009213693949) (w : World) (R : Nat) (h : Blk w R 22 #[.int .u64 (a : Int), .int .u64 1, .int .u64 2305843009213693949, .int .u64 (z : Int)]) (k : Nat) (hk : k < 4) :
    ∃ v : Nat, v ≤ 2305843009213693949 ∧ w.cell? ⟨R, k, none⟩ = some (.int .u64 (v : Int)) := by
  have h4 : k = 0 ∨ k = 1 ∨ k = 2 ∨ k = 3 := by omega
  rcases h4 with rfl | rfl | rfl | rfl
  · exact ⟨a, ha, h.cell 0⟩
  · exact ⟨1, by omega, h.cell 1⟩
  · exact ⟨2305843009213693949, by omega, h.cell 2⟩
  · exact ⟨z, hz, h.cell 3⟩

set_option maxRecDepth 100000 in
set_option maxHeartbeats 4000000 in
theorem pubs_walk (n : Nat) (A : Option Addr) (m c : Nat) (l : List UInt8) (w : World) (hA : Bt w A m c l) :
    Calls Try.prog 3 #[.int .u64 n, .slice A m c] w fun e w' => e = .returned (.bool true) ∧ Below w.heap.size w w' := by
  have k0 : Below w.heap.size w w := Below.refl _ _
  have F0 := Lib.hid hA
  clear hA
  go_enter Try.func3, Try.ntmps3
  go_wp2_with fail
  refine (few_v (F0.out) 40 (by omega)).mono ?_
  rintro e w1 ⟨⟨A1, n1, c1, rfl, h, hm1⟩, hb1⟩
  have k1 := kept_trans k0 hb1
  have G1 := Lib.hid h
  clear hb1 k0 F0 h
  obtain ⟨z9, ez9⟩ : ∃ y, y = n % 9 := ⟨_, rfl⟩
  have g9 : (n : Int) % 9 = (z9 : Int) := by omega
  have hz9 : z9 < 9 := by omega
  obtain ⟨z1, ez1⟩ : ∃ y, y = 1 + z9 := ⟨_, rfl⟩
  have g10 : 1 + (z9 : Int) = (z1 : Int) := by omega
  have hz1 : z1 ≤ 2305843009213693949 := by omega
  clear ez9 ez1
  go_wp2_with fail
  refine (sec8_v n _).mono ?_
  rintro e w2 ⟨⟨a, ha1, ha2, rfl⟩, hb2⟩
  have k2 := kept_trans k1 hb2
  have G2 := Lib.hid (G1.out.below hb2)
  clear hb2 k1 G1
  go_wp2
  have hB2 := blk_new w2 22 #[.int .u64 (a : Int), .int .u64 1, .int .u64 2305843009213693949, .int .u64 (z1 : Int)]
  have hk2 := kept_trans k2 ((Below.refl _ w2).alloc (Nat.le_refl _) (.cells #[.int .u64 (a : Int), .int .u64 1, .int .u64 2305843009213693949, .int .u64 (z1 : Int)] 22))
  have hG2 := G2.out.new (.cells #[.int .u64 (a : Int), .int .u64 1, .int .u64 2305843009213693949, .int .u64 (z1 : Int)] 22)
  have hs2 : w2.heap.size < (w2.alloc (.cells #[.int .u64 (a : Int), .int .u64 1, .int .u64 2305843009213693949, .int .u64 (z1 : Int)] 22)).heap.size := by simp
  obtain ⟨w3, hw3⟩ : ∃ W, W = w2.alloc (.cells #[.int .u64 (a : Int), .int .u64 1, .int .u64 2305843009213693949, .int .u64 (z1 : Int)] 22) := ⟨_, rfl⟩
  rw [← hw3] at hB2 hk2 hG2 hs2
  rw [← hw3]
  obtain ⟨R, hR⟩ : ∃ R, R = w2.heap.size := ⟨_, rfl⟩
  rw [← hR] at hB2 hs2
  rw [← hR]
  have HB3 := Lib.hid hB2
  have G3 := Lib.hid hG2
  have HK3 := Lib.hid hk2
  have HR3 := Lib.hid hs2
  clear hB2 hk2 hG2 hs2 hw3 hR k2 G2 g9 g10
  go_loopw [7] (fun si wr => ∃ k : Nat, k ≤ 4 ∧ si = .int .i64 (k : Int) ∧ Below w3.heap.size w3 wr) (fun si _ => 4 - (intOf si).toNat)
  case atStart => exact ⟨0, by omega, rfl, Below.refl _ _⟩
  case round =>
    obtain ⟨k, hk, rfl, hB⟩ := hrel
    have hGk := Lib.hid (G3.out.below hB)
    have hBk := Lib.hid (HB3.out.below hB HR3.out)
    have HBL := Lib.hid hB
    clear hB
    by_cases hlt : k < 4
    · obtain ⟨v, hv, hcell⟩ := four_secrets a z1 ha2 hz1 wr R hBk.out k hlt
      have q0 : wr.cell? ⟨R, k, none⟩ = some (.int .u64 (v : Int)) := hcell
      have q0' : wr.drew.cell? ⟨R, k, none⟩ = some (.int .u64 (v : Int)) := hcell
      have hlr : R < wr.heap.size := Nat.lt_of_lt_of_le HR3.out HBL.out.size
      have HP := Lib.hid (fun W : World => spub_any v W (by omega))
      have HQ := Lib.hid (fun W : World => r8pub_any v W (by omega))
      have HS := Lib.hid (fun (W : World) (h : Bt W A1 n1 c1 (l.take 40)) => sign_any h (by omega) v (by omega))
      have HT := Lib.hid (fun (W : World) (h : Bt W A1 n1 c1 (l.take 40)) => r8sign_any h (by omega) v (by omega))
      obtain ⟨p, ep⟩ : ∃ p, p = Bx.pub v := ⟨_, rfl⟩
      obtain ⟨r, er⟩ : ∃ r, r = Sg.R v (Sg.msg (l.take 40)) := ⟨_, rfl⟩
      obtain ⟨x, ex⟩ : ∃ x, x = Sg.S v (Sg.msg (l.take 40)) := ⟨_, rfl⟩
      rw [← ep] at HP HQ
      rw [← er, ← ex] at HS HT
      have HE := Lib.hid (fun W : World => (sig_neq r x r x W).trans (by rw [Sg.alike_self]))
      have HG := Lib.hid (fun (W : World) (y z : Operand) => sig_free .neq y z #[.int .u64 (r : Int), .int .u64 (x : Int)] #[.int .u64 (r : Int), .int .u64 (x : Int)] W)
      have z0 : (0 : Int) ≤ (k : Int) := by omega
      have z4 : (k : Int) < 4 := by omega
      have hpp : ((p : Int) != (p : Int)) = false := by simp
      have he := HE.out
      have hg := HG.out
      clear hcell ep er ex hv
      go_wp2_with fail
      go_region_held3 (fun w' : World => w'.cell? ⟨R, k, none⟩ = some (.int .u64 (v : Int)))
        ((first | with_reducible exact q0 | with_reducible exact q0' | with_reducible exact q1 | with_reducible exact q2 | with_reducible exact q3 | with_reducible exact q4))
        (first
          | (go_at_call 12; ((with_reducible refine (HP.out _).mono ?_); rintro e u1 ⟨rfl, hb1'⟩; have hb1 := below_of_drew hb1'; clear hb1'; have Gu1 := Lib.hid (hGk.out.below hb1); have q1 : u1.cell? ⟨R, k, none⟩ = some (.int .u64 (v : Int)) := (hb1.cell (p := ⟨R, k, none⟩) hlr).trans q0; have hl1 : R < u1.heap.size := Nat.lt_of_lt_of_le hlr hb1.size))
          | (go_at_call 13; ((with_reducible refine (HQ.out _).mono ?_); rintro e u2 ⟨rfl, hb2⟩; have Gu2 := Lib.hid (Gu1.out.below hb2); have q2 : u2.cell? ⟨R, k, none⟩ = some (.int .u64 (v : Int)) := (hb2.cell (p := ⟨R, k, none⟩) hl1).trans q1; have hl2 : R < u2.heap.size := Nat.lt_of_lt_of_le hl1 hb2.size))
          | (go_at_call 14; ((with_reducible refine (HS.out _ Gu2.out).mono ?_); rintro e u3 ⟨rfl, hb3⟩; have Gu3 := Lib.hid (Gu2.out.below hb3); have q3 : u3.cell? ⟨R, k, none⟩ = some (.int .u64 (v : Int)) := (hb3.cell (p := ⟨R, k, none⟩) hl2).trans q2; have hl3 : R < u3.heap.size := Nat.lt_of_lt_of_le hl2 hb3.size))
          | (go_at_call 15; ((with_reducible refine (HT.out _ Gu3.out).mono ?_); rintro e u4 ⟨rfl, hb4⟩; have q4 : u4.cell? ⟨R, k, none⟩ = some (.int .u64 (v : Int)) := (hb4.cell (p := ⟨R, k, none⟩) hl3).trans q3)))
      have HBU := Lib.hid (kept_trans (kept_trans (kept_trans (kept_trans HBL.out hb1) hb2) hb3) hb4)
      clear he hg q0 q0' q1 q2 q3 q4 hb1 hb2 hb3 hb4 hl1 hl2 hl3
      go_wp2
      go_roundw
      case rel => exact ⟨k + 1, hlt, by go_num, HBU.out⟩
      case measure => simp [intOf]; omega
    · have hk4 : ¬ ((k : Int) < 4) := by omega
      clear hlt
      go_wp2_with fail
      refine (lives8_any _).mono ?_
      rintro e u1 ⟨rfl, hb1⟩
      go_wp2
      go_ret
      exact ⟨rfl, kept_trans HK3.out (kept_trans HBL.out hb1)⟩

end Go.Proofs.Ytdiacpadbndncaa
