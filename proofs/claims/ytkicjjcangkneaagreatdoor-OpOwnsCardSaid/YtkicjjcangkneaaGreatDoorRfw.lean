/-
  The chapter's answer on writing: the bytes of a number, of a truth, of a text. For texts of up to a thousand bytes.
-/
import Derived.Test.YtkicjjcangkneaaGreatDoorOut
namespace Go.Proofs.YtkicjjcangkneaaGreatDoor
open Go.RowKit
set_option maxRecDepth 100000
attribute [local go_sem ↓] Go.wp_at_zero Go.wp_at_succ

/-- Bytes l are answered, in memory of their own. -/
def Bys (w w' : World) (e : Ending) (l : List UInt8) : Prop := ∃ A c, e = .returned (.slice A l.length c) ∧ w'.ownsRow w.heap.size 5 1 (.slice A l.length c) l.length (u8s l) ∧ Below w.heap.size w w'
theorem rf_u8s_one (x : Nat) (hx : x < 256) : [Value.int .u8 (x : Int)] = u8s [UInt8.ofNat x] := by unfold u8s; simp [Pk.of_nat (k := x) hx]

set_option maxRecDepth 100000 in
set_option maxHeartbeats 1000000 in
theorem rwnum_any (n : Nat) (w : World) (hn : n < 18446744073709551616) : Calls Tryz.prog 76 #[.int .u64 (n : Int)] w fun e w' => Bys w w' e (Pk.num n) := by
  obtain ⟨i0, hi0, hz0, hz1, hz2⟩ := info_parts info_u8
  obtain ⟨B, hBe⟩ : ∃ B, B = w.heap.size := ⟨_, rfl⟩
  unfold Bys
  rw [← hBe]
  have hnil := World.ownsRow_nil w B 5 1
  have HBS := Lib.hid hBe
  have HI := Lib.hid hi0
  have HZ0 := Lib.hid hz0
  have HZ1 := Lib.hid hz1
  have HZ2 := Lib.hid hz2
  have HNIL := Lib.hid hnil
  obtain ⟨F, hF⟩ : ∃ F, F = Pk.num n := ⟨_, rfl⟩
  have hFl := Pk.num_len10 n hn
  rw [← hF] at hFl ⊢
  have HF := Lib.hid hF
  have HFL := Lib.hid hFl
  clear hi0 hz0 hz1 hz2 hnil hF hBe hFl
  go_enter Tryz.func76, Tryz.ntmps76
  go_wp2
  go_loopw [0, 3] (fun x o wr => ∃ (k m : Nat) (l1 : List UInt8), x = .int .u64 k ∧ k ≤ n ∧ F = l1 ++ Pk.num k ∧ m = l1.length ∧ (∃ A' c', o = .slice A' m c') ∧ wr.ownsRow B 5 1 o m (u8s l1) ∧ Below B w wr) (fun x _ _ => (intOf x).toNat)
  case atStart => exact ⟨n, 0, [], rfl, Nat.le_refl _, HF.out, rfl, ⟨_, _, rfl⟩, HNIL.out, Below.refl _ _⟩
  case round =>
    obtain ⟨k, m, l1, rfl, hk, hFk, hm, ⟨A1, c1, rfl⟩, hrow, hb⟩ := hrel
    have hlen : m + (Pk.num k).length ≤ 10 := by
      have h0 := congrArg List.length hFk
      rw [List.length_append] at h0
      have := HFL.out
      omega
    have hsz := hb.size
    have hBw : B ≤ wr.heap.size := by have := HBS.out; omega
    have HM := Lib.hid hm
    have HROW := Lib.hid hrow
    have HBEL := Lib.hid hb
    have HFK := Lib.hid hFk
    clear hFk hm hrow hb hsz HF
    have hkb : k < 18446744073709551616 := by omega
    by_cases hk8 : k < 128
    · have hnum := Pk.num_small hk8
      have hw : IntKind.u8.wrap (k : Int) = (k : Int) := by rw [IntKind.wrap_u8']; omega
      rw [hnum] at hlen
      have hlen1 : m + 1 ≤ 10 := hlen
      have HNUM := Lib.hid hnum
      have h127 : ¬ (127 : Int) < (k : Int) := by omega
      clear hnum hlen hk8
      go_wp2_with (at_builtin; refine wpList_append_own _ rfl _ _ 28 rfl B 5 i0 (.int .u8 0) 1 1 Tryz.underlying28 HI.out HZ0.out HZ1.out HZ2.out rfl (by decide) _ _ _ rfl (HROW.out.alloc _) ⟨wr.heap.size, 0, none⟩ 1 1 [.int .u8 (k : Int)] rfl rfl (cell_one_new _ _ _) (by simp [Value.oneCell']) (by unfold maxLen; omega) (by omega) (by simp; omega) ?_; intro v' w1 hown' hgrow _; obtain ⟨g', cap', rfl⟩ := ownsRow_succ hown'; have HO := Lib.hid (And.intro hown' (HBEL.out.trans (((Below.refl B wr).alloc hBw _).grown hgrow (by simp; omega) (fun j e => (HROW.out.lt j e).1)))); clear hown' hgrow)
      go_ret
      have hF : F = l1 ++ [UInt8.ofNat k] := by rw [HFK.out, HNUM.out]
      have hl : F.length = m + 1 := by rw [hF, List.length_append, ← HM.out]; rfl
      rw [hl]
      refine ⟨_, _, rfl, ?_, HO.out.2⟩
      rw [hF, ou_u8s_app, ← rf_u8s_one k (by omega)]
      exact HO.out.1
    · have hnum := Pk.num_big hk8
      obtain ⟨y, hy⟩ : ∃ y, y = k % 128 := ⟨_, rfl⟩
      obtain ⟨x, hx⟩ : ∃ x, x = k % 128 + 128 := ⟨_, rfl⟩
      obtain ⟨kd, hkd⟩ : ∃ kd, kd = k / 128 := ⟨_, rfl⟩
      have hym : (k : Int) % 128 = (y : Int) := by omega
      have hyb : y < 128 := by omega
      have hw : IntKind.u8.wrap (y : Int) = (y : Int) := by rw [IntKind.wrap_u8']; omega
      have hyx : (y : Int) + 128 = (x : Int) := by omega
      have hdi : (k : Int) / 128 = (kd : Int) := by omega
      rw [← hx, ← hkd] at hnum
      rw [hnum, List.length_cons] at hlen
      have hlen1 : m + 1 ≤ 10 := by omega
      have HNUM := Lib.hid hnum
      have h127 : (127 : Int) < (k : Int) := by omega
      have HKK := Lib.hid (show kd < k by omega)
      have HXB := Lib.hid (show x < 256 by omega)
      clear hnum hlen hx hy hkd hk8
      go_wp2_with (at_builtin; refine wpList_append_own _ rfl _ _ 28 rfl B 5 i0 (.int .u8 0) 1 1 Tryz.underlying28 HI.out HZ0.out HZ1.out HZ2.out rfl (by decide) _ _ _ rfl (HROW.out.alloc _) ⟨wr.heap.size, 0, none⟩ 1 1 [.int .u8 (x : Int)] rfl rfl (cell_one_new _ _ _) (by simp [Value.oneCell']) (by unfold maxLen; omega) (by omega) (by simp; omega) ?_; intro v' w1 hown' hgrow _; obtain ⟨g', cap', rfl⟩ := ownsRow_succ hown'; have HO := Lib.hid (And.intro hown' (HBEL.out.trans (((Below.refl B wr).alloc hBw _).grown hgrow (by simp; omega) (fun j e => (HROW.out.lt j e).1)))); clear hown' hgrow)
      go_roundw
      case rel =>
        refine ⟨kd, m + 1, l1 ++ [UInt8.ofNat x], rfl, by have := HKK.out; omega, ?_, ?_, ⟨_, _, rfl⟩, ?_, HO.out.2⟩
        · rw [HFK.out, HNUM.out, List.append_assoc]; rfl
        · rw [List.length_append, ← HM.out]; rfl
        · rw [ou_u8s_app, ← rf_u8s_one x HXB.out]
          exact HO.out.1
      case measure => have := HKK.out; simp [intOf]; omega

/-! ### a number with its sign -/
set_option maxHeartbeats 400000 in
theorem rwint_any (n : Int) (w : World) (h1 : -9223372036854775808 ≤ n) (h2 : n ≤ 9223372036854775807) : Calls Tryz.prog 78 #[.int .i64 n] w fun e w' => Bys w w' e (Pk.nInt n) := by
  have hlt := Pk.zig_lt n h1 h2
  unfold Pk.nInt
  obtain ⟨z, hz⟩ : ∃ z, z = Pk.zig n := ⟨_, rfl⟩
  rw [← hz] at hlt ⊢
  have HN := Lib.hid (rwnum_any z w hlt)
  unfold Pk.zig at hz
  by_cases h0 : n < 0
  · obtain ⟨m, hm⟩ : ∃ m : Nat, n = -(m : Int) - 1 := ⟨(-(n + 1)).toNat, by omega⟩
    have hzz : z = 2 * m + 1 := by rw [hz, if_pos h0]; omega
    have hw1 : IntKind.i64.wrap (n + 1) = n + 1 := by rw [IntKind.wrap_i64]; omega
    have hw2 : IntKind.i64.wrap (-(n + 1)) = (m : Int) := by rw [IntKind.wrap_i64]; omega
    have hn1 : -(n + 1) = (m : Int) := by omega
    have hw : IntKind.u64.wrap (m : Int) = (m : Int) := by rw [IntKind.wrap_u64]; omega
    have hw3 : IntKind.u64.wrap ((m : Int) * 2) = (m : Int) * 2 := by rw [IntKind.wrap_u64]; omega
    have hzi : (m : Int) * 2 + 1 = (z : Int) := by omega
    have hmb : m < 9223372036854775808 := by omega
    have HM := Lib.hid hm
    clear hz hzz hlt hm
    go_enter Tryz.func78, Tryz.ntmps78
    go_wp2_with fail
    refine (HN.out).mono ?_
    rintro e w1 ⟨A, c, rfl, ho⟩
    go_wp2
    go_ret
    exact ⟨A, c, rfl, ho⟩
  · obtain ⟨m, rfl⟩ := Int.eq_ofNat_of_zero_le (by omega : 0 ≤ n)
    have hzz : z = 2 * m := by rw [hz, if_neg h0]; omega
    have hw : IntKind.u64.wrap (m : Int) = (m : Int) := by rw [IntKind.wrap_u64]; omega
    have hzi : (m : Int) * 2 = (z : Int) := by omega
    have hmb : m < 9223372036854775808 := by omega
    clear hz hzz hlt
    go_enter Tryz.func78, Tryz.ntmps78
    go_wp2_with fail
    refine (HN.out).mono ?_
    rintro e w1 ⟨A, c, rfl, ho⟩
    go_wp2
    go_ret
    exact ⟨A, c, rfl, ho⟩

/-! ### a text -/
set_option maxHeartbeats 800000 in
theorem rwtext_any (s : ByteArray) (w : World) (hs : s.size ≤ 1000) : Calls Tryz.prog 79 #[.string s] w fun e w' => Bys w w' e (Pk.nText s.data.toList) := by
  obtain ⟨i0, hi0, hz0, hz1, hz2⟩ := info_parts info_u8
  obtain ⟨B, hBe⟩ : ∃ B, B = w.heap.size := ⟨_, rfl⟩
  have HI := Lib.hid hi0
  have HZ0 := Lib.hid hz0
  have HZ1 := Lib.hid hz1
  have HZ2 := Lib.hid hz2
  have hin := rwint_any (s.size : Nat) w (by omega) (by omega)
  have hl := Pk.nInt_len (s.size : Nat) (by omega) (by omega)
  unfold Bys at hin ⊢
  rw [← hBe] at hin ⊢
  obtain ⟨l1, hl1⟩ : ∃ l1, l1 = Pk.nInt (s.size : Nat) := ⟨_, rfl⟩
  obtain ⟨F, hF⟩ : ∃ F, F = Pk.nText s.data.toList := ⟨_, rfl⟩
  have hF2 : F = l1 ++ s.data.toList := by rw [hF, hl1]; rfl
  rw [← hl1] at hin hl
  obtain ⟨m, hm⟩ : ∃ m, m = l1.length := ⟨_, rfl⟩
  rw [← hm] at hin hl
  rw [← hF]
  have hFl : F.length = m + s.size := by rw [hF2, List.length_append, ← hm]; rfl
  rw [hFl]
  have HN := Lib.hid hin
  have HF := Lib.hid hF2
  have HBS := Lib.hid hBe
  clear hi0 hz0 hz1 hz2 hBe hin hl1 hF hF2 hm hFl
  go_enter Tryz.func79, Tryz.ntmps79
  go_wp2_with fail
  refine (HN.out).mono ?_
  rintro e wr ⟨A, c, rfl, hA, hb⟩
  have hBw : B ≤ wr.heap.size := by have := hb.size; have := HBS.out; omega
  have HA := Lib.hid hA
  have HBEL := Lib.hid hb
  clear hA hb HN
  go_wp2_with (at_builtin; refine Lib.wpList_append_own_string _ rfl _ _ 28 9 rfl B 5 i0 Tryz.underlying28 Tryz.underlying9 HI.out HZ0.out HZ1.out HZ2.out _ _ _ rfl HA.out s rfl (by unfold maxLen; omega) (by omega) hBw ?_; intro v' w1 hown' hgrow _; obtain ⟨A2, c2, rfl⟩ := own_slice hown'; have HO := Lib.hid (And.intro hown' (HBEL.out.grown hgrow hBw (fun j e => (HA.out.lt j e).1))); clear hown' hgrow)
  go_ret
  refine ⟨A2, c2, rfl, ?_, HO.out.2⟩
  rw [HF.out, ou_u8s_app]
  exact HO.out.1

end Go.Proofs.YtkicjjcangkneaaGreatDoor
