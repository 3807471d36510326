/-
  SealPad: the walk, over natural numbers and lists of bytes. No condition.
-/
import Derived.Test.YtfbakfdakmndhaaSek
import Derived.Deep.QuietTactic
import Derived.BigQuiet
namespace Go.Proofs.Ytfbakfdakmndhaa
open Go.RowKit

theorem min3 (x y : Nat) (j : Nat) (hj : j = min (min x y) 40) (W : World) : (Builtin.min_ #[3, 3, 3] 3 #[.int .i64 (x : Int), .int .i64 (y : Int), .int .i64 40]).run Try.prog W = .ok (.int .i64 (j : Int)) W := by
  have e : (if (40 : Int) < (if (y : Int) < (x : Int) then (y : Int) else (x : Int)) then (40 : Int) else (if (y : Int) < (x : Int) then (y : Int) else (x : Int))) = (j : Int) := by
    split <;> split <;> omega
  simp only [Builtin.min_, Builtin.min2, List.foldlM, bind_pure]
  rw [← e]
  rfl
theorem xor_pad (k : Nat) (p q a t : List UInt8) (i : Nat) (h : i < a.length) (h' : i < t.length) (hx : i < (Sl.put k p a).length) (hy : i < (Sl.put k q t).length) :
    (Sl.put k p a)[i] ^^^ (Sl.put k q t)[i] = a[i] ^^^ t[i] := by
  obtain ⟨x, y, h1, h2, h3⟩ := Sl.seal_xor k p q a t i h h'
  rw [List.getElem?_eq_getElem hx] at h1
  rw [List.getElem?_eq_getElem hy] at h2
  injection h1 with h1
  injection h2 with h2
  rw [h1, h2, h3]

set_option maxRecDepth 100000 in
set_option maxHeartbeats 4000000 in
theorem pad_walk (k : Nat) (A0 A1 A T : Option Addr) (m0 d0 m1 d1 n c n' c' : Nat) (p q a t : List UInt8) (w : World) (hk : k < 18446744073709551616) (hP : Bt w A0 m0 d0 p) (hQ : Bt w A1 m1 d1 q) (hA : Bt w A n c a) (hT : Bt w T n' c' t) :
    Calls Try.prog 8 #[.int .u64 k, .agg #[.slice A0 m0 d0, .slice A1 m1 d1], .slice A n c, .slice T n' c'] w fun e w' => e = .returned (.bool true) ∧ Below w.heap.size w w' := by
  have k0 : Below w.heap.size w (w.alloc (.cells #[.slice A0 m0 d0, .slice A1 m1 d1] 38)) := (Below.refl _ w).alloc (Nat.le_refl _) _
  have hX := blk_new w 38 #[.slice A0 m0 d0, .slice A1 m1 d1]
  have hP := hP.below k0
  have hQ := hQ.below k0
  have hA := hA.below k0
  have hT := hT.below k0
  obtain ⟨wx, hwx⟩ : ∃ wx, wx = w.alloc (.cells #[.slice A0 m0 d0, .slice A1 m1 d1] 38) := ⟨_, rfl⟩
  have HWX := Lib.hid hwx
  rw [← hwx] at k0 hX hP hQ hA hT
  clear hwx
  obtain ⟨X, hXe⟩ : ∃ X, X = w.heap.size := ⟨_, rfl⟩
  rw [← hXe] at hX
  have HXE := Lib.hid hXe
  clear hXe
  obtain ⟨j, hj⟩ : ∃ j, j = min (min n n') 40 := ⟨_, rfl⟩
  have hmn := min3 n n' j hj
  have hj1 : j ≤ n := by omega
  have hj2 : j ≤ n' := by omega
  have hj3 : j ≤ 40 := by omega
  clear hj
  have hnc := hA.cap
  have hnc' := hT.cap
  have hs1 := slice_head 23 (by kernel_rfl) (fun W => by kernel_rfl) A n c j (by omega)
  have hs2 := slice_head 23 (by kernel_rfl) (fun W => by kernel_rfl) T n' c' j (by omega)
  have q0 : (0 : Int) ≤ (j : Int) := by omega
  have q1 : (j : Int) ≤ (c : Int) := by omega
  have q2 : (j : Int) ≤ (c' : Int) := by omega
  have HX := Lib.hid hX
  have HP := Lib.hid hP
  have HQ := Lib.hid hQ
  have HA := Lib.hid (hA.take hj1)
  have HT := Lib.hid (hT.take hj2)
  have HK := Lib.hid k0
  have HF0 := Lib.hid (fun W (h : Below wx.heap.size wx W) => few_v (hP.below h) 20 (by omega))
  have HS0 := Lib.hid (fun W B m c2 (h : Below wx.heap.size wx W) (hb : Bt W B m c2 (p.take 20)) (hm : m ≤ 20) => seal_v k hb ((hA.take hj1).below h) hk (by omega) (by omega))
  have HF1 := Lib.hid (fun W (h : Below wx.heap.size wx W) => few_v (hQ.below h) 20 (by omega))
  have HS1 := Lib.hid (fun W B m c2 (h : Below wx.heap.size wx W) (hb : Bt W B m c2 (q.take 20)) (hm : m ≤ 20) => seal_v k hb ((hT.take hj2).below h) hk (by omega) (by omega))
  have hw0 : Below wx.heap.size wx wx := Below.refl _ _
  have hw1 : Below wx.heap.size wx wx.drew := below_to_drew hw0
  have hXs : X < wx.heap.size := hX.lt
  have c0 : wx.cell? ⟨X, 0, none⟩ = some (.slice A0 m0 d0) := hX.cell 0
  have c0' : wx.drew.cell? ⟨X, 0, none⟩ = some (.slice A0 m0 d0) := c0
  clear hX hP hQ hA hT k0 hnc hnc' hw0
  go_enter Try.func8, Try.ntmps8
  go_wp2_with fail
  rw [← HWX.out, ← HXE.out]
  go_region_held3 (fun w' : World => w'.cell? ⟨X, 0, none⟩ = some (.slice A0 m0 d0))
    ((first | with_reducible exact c0 | with_reducible exact c0' | with_reducible exact c1 | with_reducible exact c2))
    (first
      | (go_at_call 11; have z := HF0.out wx.drew hw1; (refine z.mono ?_); clear z; rintro e w1 ⟨⟨B1, n1, e1, rfl, hb1, hm1⟩, hk1'⟩; have hk1 : Below wx.heap.size wx w1 := below_of_drew hk1'; clear hk1'; have c1 := (hk1.cell (p := ⟨X, 0, none⟩) hXs).trans c0)
      | (go_at_call 12; have z := HS0.out w1 B1 n1 e1 hk1 hb1 hm1; (with_reducible refine z.mono ?_); clear z; rintro e w2 ⟨⟨g2, n2, e2, rfl, hb2, hm2⟩, hk2'⟩; have hk2 : Below wx.heap.size wx w2 := kept_trans hk1 hk2'; clear hk2'; have c2 := (hk2.cell (p := ⟨X, 0, none⟩) hXs).trans c0))
  have HB2 := Lib.hid hb2
  have HM2 := Lib.hid hm2
  clear c0 c0' c1 c2 hk1 hb1 hb2 hm2 hw1 HF0 HS0
  have hk2d : Below wx.heap.size wx w2.drew := below_to_drew hk2
  have hX2 := (HX.out.below hk2 hXs)
  have d0 : w2.cell? ⟨X, 1, none⟩ = some (.slice A1 m1 d1) := hX2.cell 1
  have d0' : w2.drew.cell? ⟨X, 1, none⟩ = some (.slice A1 m1 d1) := d0
  have hX2s : X < w2.heap.size := hX2.lt
  clear hX2
  go_wp2_with fail
  go_region_held3 (fun w' : World => w'.cell? ⟨X, 1, none⟩ = some (.slice A1 m1 d1))
    ((first | with_reducible exact d0 | with_reducible exact d0' | with_reducible exact d1' | with_reducible exact d2))
    (first
      | (go_at_call 11; have z := HF1.out w2.drew hk2d; (refine z.mono ?_); clear z; rintro e w3 ⟨⟨B3, n3, e3, rfl, hb3, hm3⟩, hk3'⟩; have hk3 : Below w2.heap.size w2 w3 := below_of_drew hk3'; clear hk3'; have hk3x := kept_trans hk2 hk3; have d1' := (hk3.cell (p := ⟨X, 1, none⟩) hX2s).trans d0)
      | (go_at_call 12; have z := HS1.out w3 B3 n3 e3 hk3x hb3 hm3; (with_reducible refine z.mono ?_); clear z; rintro e w4 ⟨⟨g4, n4, e4, rfl, hb4, hm4⟩, hk4'⟩; have hk4 : Below w2.heap.size w2 w4 := kept_trans hk3 hk4'; clear hk4'; have d2 := (hk4.cell (p := ⟨X, 1, none⟩) hX2s).trans d0))
  have HB4 := Lib.hid hb4
  have HX4 := Lib.hid (HB2.out.below hk4)
  have hk4x := kept_trans hk2 hk4
  have hm2 := HM2.out
  obtain ⟨N, hN⟩ : ∃ N, N = j + 8 := ⟨_, rfl⟩
  obtain rfl : n2 = N := by omega
  obtain rfl : n4 = n2 := by omega
  have hq3 : (j : Int) + 8 = (n4 : Int) := by omega
  have hjn : j ≤ n4 := by omega
  have HN := Lib.hid hN
  have HA4 := Lib.hid (HA.out.below hk4x)
  have HT4 := Lib.hid (HT.out.below hk4x)
  have HK4 := Lib.hid (HK.out.trans (hk4x.mono HK.out.size))
  clear d0 d0' d1' d2 hk3 hk3x hb3 hb4 hk4 hk4x hk2 hk2d hm2 hm4 hN HF1 HS1 HB2 HM2 hs1 hs2
  go_wp2
  go_loopw [12] (fun i wr => ∃ r : Nat, r ≤ j ∧ i = .int .i64 (r : Int) ∧ Below w4.heap.size w4 wr) (fun i _ => j - (intOf i).toNat)
  case atStart => exact ⟨0, by omega, rfl, Below.refl _ _⟩
  case round =>
    obtain ⟨r, hr, rfl, hbr⟩ := hrel
    by_cases hlt : r < j
    · have hla := HA4.out.len
      have hlt' := HT4.out.len
      have hlx := HX4.out.len
      have hly := HB4.out.len
      have hra : r < (a.take j).length := by omega
      have hrt : r < (t.take j).length := by omega
      have hrx : r < (Sl.put k (p.take 20) (a.take j)).length := by omega
      have hry : r < (Sl.put k (q.take 20) (t.take j)).length := by omega
      obtain ⟨ba, oa, rfl, _, ca0⟩ := byte_cell (HA4.out.below hbr).rd hra
      obtain ⟨bt, ot, rfl, _, ct0⟩ := byte_cell (HT4.out.below hbr).rd hrt
      obtain ⟨bx, ox, ex, _, cx0⟩ := byte_cell (HX4.out.below hbr).rd hrx
      obtain ⟨bY, oy, ey, _, cy0⟩ := byte_cell (HB4.out.below hbr).rd hry
      injection ex with ex
      injection ex with ex1 ex2
      subst ex1 ex2
      injection ey with ey
      injection ey with ey1 ey2
      subst ey1 ey2
      rw [Nat.zero_add] at cx0 cy0
      have h10 := u8_xor_is (Sl.put k (p.take 20) (a.take j))[r] (Sl.put k (q.take 20) (t.take j))[r]
      have h20 := u8_xor_is (a.take j)[r] (t.take j)[r]
      rw [xor_pad k (p.take 20) (q.take 20) (a.take j) (t.take j) r hra hrt hrx hry] at h10
      obtain ⟨va, vt, vx, vy, z, ca, ct, cx, cy, h1, h2⟩ : ∃ va vt vx vy z : Nat, wr.cell? ⟨ba, oa + r, none⟩ = some (.int .u8 (va : Int)) ∧ wr.cell? ⟨bt, ot + r, none⟩ = some (.int .u8 (vt : Int)) ∧ wr.cell? ⟨g2, r, none⟩ = some (.int .u8 (vx : Int)) ∧ wr.cell? ⟨g4, r, none⟩ = some (.int .u8 (vy : Int)) ∧ bits .xor .u8 (vx : Int) (vy : Int) = (z : Int) ∧ bits .xor .u8 (va : Int) (vt : Int) = (z : Int) := ⟨_, _, _, _, _, ca0, ct0, cx0, cy0, h10, h20⟩
      have p0 : (0 : Int) ≤ (r : Int) := by omega
      have p1 : (r : Int) < (n4 : Int) := by omega
      have p2 : (r : Int) < (n : Int) := by omega
      have p3 : (r : Int) < (n' : Int) := by omega
      have hzz : ((z : Int) != (z : Int)) = false := by simp
      clear hla hlt' hlx hly ca0 ct0 cx0 cy0 h10 h20
      go_wp2
      go_quiet (fail)
      go_wp2
      go_roundw
      case rel => exact ⟨r + 1, hlt, by go_num, below_drewN hbr _⟩
      case measure => simp [intOf]; omega
    · obtain rfl : r = j := by omega
      go_wp2_with fail
      refine (lives7_any _).mono ?_
      rintro e wz ⟨rfl, hbz⟩
      have kz := kept_trans HK4.out (kept_trans hbr hbz)
      clear hbz hbr
      go_wp2
      go_ret
      exact ⟨rfl, kz⟩

end Go.Proofs.Ytfbakfdakmndhaa
