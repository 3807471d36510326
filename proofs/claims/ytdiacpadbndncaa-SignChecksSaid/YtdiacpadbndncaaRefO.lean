/-
  The references' sum of a label and numbers, of bytes, and secrets: the same plain functions as package hash's; what was there is left as it was. For labels and rows of up to a million.
-/
import Derived.Test.YtdiacpadbndncaaRefW
namespace Go.Proofs.Ytdiacpadbndncaa
open Go.RowKit

namespace Hsh
/-- What the reference sums up. -/
def rall (label : List UInt8) (l : List Nat) : List Nat := words label ++ l.length :: (l.map (· % 2305843009213693951) ++ [0])
theorem rall_of (label : List UInt8) (l : List Nat) : fold label.length 1 (rall label l) = of label l := by
  refine fold_mod _ _ ?_ _ _
  have e : (fun x : Nat => x % 2305843009213693951 % Fld.P) = fun x => x % Fld.P := by
    funext x
    rw [Fld.P_val]
    omega
  simp only [rall, all, List.map_append, List.map_cons, List.map_map]
  congr 2
  congr 1
  refine List.map_congr_left fun x _ => ?_
  show x % 2305843009213693951 % Fld.P = x % Fld.P
  rw [Fld.P_val]; omega
end Hsh

set_option maxRecDepth 100000 in
set_option maxHeartbeats 2000000 in
theorem rof_any (s : ByteArray) (l : List Nat) (A : Option Addr) (m c : Nat) (w : World) (hs : s.size ≤ 1000000) (hm : m = l.length) (hmb : m ≤ 1000000) (hA : Rd w.heap.size w A (u64s l)) :
    Calls Try.prog 44 #[.string s, .slice A m c] w fun e w' => e = .returned (.int .u64 (Hsh.of s.data.toList l : Nat)) ∧ Below w.heap.size w w' := by
  obtain ⟨i0, hi, hz0, hz1, hz2⟩ := info_parts info_u64
  obtain ⟨cap, w1, hconv, hrd, hb1⟩ := label_bytes s w
  obtain ⟨B, hB⟩ : ∃ B, B = w.heap.size := ⟨_, rfl⟩
  have hsl : s.size = s.data.toList.length := rfl
  have hwr := rwords_any s.data.toList (some ⟨w.heap.size, 0, none⟩) s.size cap w1 hsl hs hrd
  have HWR := Lib.hid hwr
  have HM := Lib.hid hm
  have HA := Lib.hid hA
  have HI := Lib.hid hi
  have HZ0 := Lib.hid hz0
  have HZ1 := Lib.hid hz1
  have HZ2 := Lib.hid hz2
  have HB := Lib.hid hB
  have hqs : Hsh.sevens s.size ≤ 142859 := by unfold Hsh.sevens; omega
  clear hwr hm hA hi hz0 hz1 hz2 hrd hsl hB
  go_enter Try.func44, Try.ntmps44
  go_wp2_with fail
  refine (HWR.out).mono ?_
  rintro e w2 ⟨A1, c1, rfl, hrow, hb2⟩
  have HROW := Lib.hid hrow
  clear hrow hconv
  obtain ⟨q, hq⟩ : ∃ q, q = Hsh.sevens s.size := ⟨_, rfl⟩
  rw [← hq] at HROW hqs ⊢
  have HQ := Lib.hid hq
  clear hq
  go_wp2_with (at_builtin; refine wpList_append_own _ rfl _ _ 26 rfl w1.heap.size 22 i0 (.int .u64 0) 1 8 Try.underlying26 HI.out HZ0.out HZ1.out HZ2.out rfl (by decide) _ _ _ rfl (HROW.out.alloc _) ⟨w2.heap.size, 0, none⟩ 1 1 [.int .u64 (m : Int)] rfl rfl (cell_one_new _ _ _) (by simp [Value.oneCell']) (by unfold maxLen; omega) (by omega) (by have := hb2.size; simp; omega) ?_; intro v' w3 hown' hgrow _; obtain ⟨g', cap', rfl⟩ := ownsRow_succ hown'; have HO := Lib.hid hown'; clear hown')
  have hg3 : (w2.alloc (.cells #[.int .u64 (m : Int)] 22)).grownBy w3 (Value.slice A1 q c1).ownBlock := hgrow
  have hB3 : Below w1.heap.size w1 w3 := hb2.trans (((Below.refl _ w2).alloc hb2.size _).grown hg3 (by have := hb2.size; simp; omega) (fun j e => (HROW.out.lt j e).1))
  have hrow3 : w3.ownsRow w1.heap.size 22 1 (.slice (some ⟨g', 0, none⟩) (q + 1) cap') (q + 1) (u64s (Hsh.words s.data.toList ++ m :: (l.take 0).map (· % 2305843009213693951))) := by
    have h := HO.out
    rw [← u64s_snoc] at h
    exact h
  obtain ⟨B1, hB1⟩ : ∃ B1, B1 = w1.heap.size := ⟨_, rfl⟩
  rw [← hB1] at hB3 hrow3
  have HB1 := Lib.hid hB1
  have HR3 := Lib.hid hrow3
  clear hB1 hrow3 hg3 hgrow hb2
  go_loopw [5, 6] (fun o i wr => ∃ k : Nat, k ≤ m ∧ i = .int .i64 k ∧ (∃ A' c', o = .slice A' (q + 1 + k) c') ∧ wr.ownsRow B1 22 1 o (q + 1 + k) (u64s (Hsh.words s.data.toList ++ m :: (l.take k).map (· % 2305843009213693951))) ∧ Below B1 w1 wr)
    (fun _ i _ => m - (intOf i).toNat)
  case atStart => exact ⟨0, Nat.zero_le _, rfl, ⟨_, _, rfl⟩, HR3.out, hB3⟩
  case round =>
    obtain ⟨k, hk, rfl, ⟨A2, c2, rfl⟩, hrowr, hbelr⟩ := hrel
    have HRR := Lib.hid hrowr
    clear hrowr
    have hszr : B1 ≤ wr.heap.size := by have := HB1.out; have := hbelr.size; omega
    by_cases hlt : k < m
    · have hkl : k < l.length := by rw [← HM.out]; exact hlt
      have hbw : Below w.heap.size w wr := hb1.trans (hbelr.mono (by rw [HB1.out]; exact hb1.size))
      obtain ⟨b, off, rfl, hb, hcl⟩ := (HA.out).at_ (k := k) (by rw [u64s_len]; exact hkl)
      have hcr : wr.cell? ⟨b, off + k, none⟩ = some (.int .u64 (l[k] : Nat)) := by
        refine (hbw.cell (p := ⟨b, off + k, none⟩) hb).trans (hcl.trans ?_)
        simp [u64s]
      have htk : (l.take (k + 1)).map (· % 2305843009213693951) = (l.take k).map (· % 2305843009213693951) ++ [l[k] % 2305843009213693951] := by
        rw [List.take_succ_eq_append_getElem hkl, List.map_append]; rfl
      obtain ⟨x, hx⟩ : ∃ x : Nat, x = l[k] := ⟨_, rfl⟩
      rw [← hx] at hcr htk
      obtain ⟨y, hy⟩ : ∃ y : Nat, y = x % 2305843009213693951 := ⟨_, rfl⟩
      have hxy : (x : Int) % 2305843009213693951 = (y : Int) := by omega
      rw [← hy] at htk
      have HT := Lib.hid htk
      clear htk hx hy hcl hkl
      go_wp2_with (at_builtin; refine wpList_append_own _ rfl _ _ 26 rfl B1 22 i0 (.int .u64 0) 1 8 Try.underlying26 HI.out HZ0.out HZ1.out HZ2.out rfl (by decide) _ _ _ rfl (HRR.out.alloc _) ⟨wr.heap.size, 0, none⟩ 1 1 [.int .u64 (y : Int)] rfl rfl (cell_one_new _ _ _) (by simp [Value.oneCell']) (by unfold maxLen; omega) (by omega) (by simp; omega) ?_; intro v' w4 hown' hgrow4 _; obtain ⟨g4, cap4, rfl⟩ := ownsRow_succ hown'; have HO4 := Lib.hid hown'; clear hown')
      go_roundw
      case rel =>
        refine ⟨k + 1, hlt, by go_num, ⟨_, _, rfl⟩, ?_, ?_⟩
        · rw [HT.out, ← List.cons_append, ← List.append_assoc, u64s_snoc]
          exact HO4.out
        · have hg4 : (wr.alloc (.cells #[.int .u64 (y : Int)] 22)).grownBy w4 (Value.slice A2 (q + 1 + k) c2).ownBlock := hgrow4
          exact hbelr.trans (((Below.refl B1 wr).alloc hszr _).grown hg4 (by simp; omega) (fun j e => (HRR.out.lt j e).1))
      case measure => simp [intOf]; omega
    · obtain rfl : m = k := by omega
      have hall : Hsh.words s.data.toList ++ m :: (l.take m).map (· % 2305843009213693951) ++ [0] = Hsh.rall s.data.toList l := by
        rw [List.take_of_length_le (by rw [← HM.out]; exact Nat.le_refl _), HM.out]
        unfold Hsh.rall
        simp
      have HALL := Lib.hid hall
      clear hall
      go_wp2_with (at_builtin; refine wpList_append_own _ rfl _ _ 26 rfl B1 22 i0 (.int .u64 0) 1 8 Try.underlying26 HI.out HZ0.out HZ1.out HZ2.out rfl (by decide) _ _ _ rfl (HRR.out.alloc _) ⟨wr.heap.size, 0, none⟩ 1 1 [.int .u64 0] rfl rfl (cell_one_new _ _ _) (by simp [Value.oneCell']) (by unfold maxLen; omega) (by omega) (by simp; omega) ?_; intro v' w4 hown' hgrow4 _; obtain ⟨g4, cap4, rfl⟩ := ownsRow_succ hown'; have HO4 := Lib.hid hown'; clear hown')
      have hg4 : (wr.alloc (.cells #[.int .u64 0] 22)).grownBy w4 (Value.slice A2 (q + 1 + m) c2).ownBlock := hgrow4
      have hB4 : Below B1 w1 w4 := hbelr.trans (((Below.refl B1 wr).alloc hszr _).grown hg4 (by simp; omega) (fun j e => (HRR.out.lt j e).1))
      have hrow4 := HO4.out
      have e0 : [Value.int .u64 (0 : Int)] = [Value.int .u64 ((0 : Nat) : Int)] := rfl
      rw [e0, ← u64s_snoc, HALL.out] at hrow4
      obtain ⟨t, ht⟩ : ∃ t, t = q + 1 + m + 1 := ⟨_, rfl⟩
      rw [← ht] at hrow4 ⊢
      obtain ⟨all, hall⟩ : ∃ all, all = Hsh.rall s.data.toList l := ⟨_, rfl⟩
      rw [← hall] at hrow4
      have hlen : all.length = t := by have := hrow4.1; rw [u64s_len] at this; omega
      have hrd4 := Rd.of_own hrow4
      have htb : t ≤ 2000000 := by omega
      have hBf : ∀ wx, Below w4.heap.size w4 wx → Below w.heap.size w wx := fun wx hx => hb1.trans ((hB4.trans (hx.mono (by have := hB4.size; have := HB1.out; omega))).mono (by rw [HB1.out]; exact hb1.size))
      have HLEN := Lib.hid hlen
      have HRD := Lib.hid hrd4
      have HALL2 := Lib.hid hall
      have HBF := Lib.hid hBf
      clear hlen hrd4 hrow4 hall HALL hgrow4 hg4 hB4 ht hBf e0
      go_loopw [7, 8] (fun v i wx => ∃ k : Nat, k ≤ t ∧ i = .int .i64 k ∧ v = .int .u64 (Hsh.st s.data.toList (all.take k) : Nat) ∧ Below w4.heap.size w4 wx) (fun _ i _ => t - (intOf i).toNat)
      case atStart => exact ⟨0, Nat.zero_le _, rfl, rfl, Below.refl _ _⟩
      case round =>
        obtain ⟨k, hk, rfl, rfl, hbx⟩ := hrel
        by_cases hlt : k < t
        · have hkl : k < all.length := by rw [HLEN.out]; exact hlt
          obtain ⟨b, off, e, hb, hcl⟩ := (HRD.out).at_ (k := k) (by rw [u64s_len]; exact hkl)
          injection e with e
          injection e with e1 e2
          subst e1 e2
          have hcr : wr.cell? ⟨g4, k, none⟩ = some (.int .u64 (all[k] : Nat)) := by
            have h := (hbx.cell (p := ⟨g4, 0 + k, none⟩) hb).trans hcl
            rw [Nat.zero_add] at h
            rw [h]
            simp [u64s]
          have hsn := Hsh.st_snoc s.data.toList (all.take k) all[k]
          rw [← List.take_succ_eq_append_getElem hkl, List.length_take, Nat.min_eq_left (Nat.le_of_lt hkl)] at hsn
          obtain ⟨x, hx⟩ : ∃ x : Nat, x = all[k] := ⟨_, rfl⟩
          rw [← hx] at hcr hsn
          obtain ⟨v, hv⟩ : ∃ v : Nat, v = Hsh.st s.data.toList (all.take k) := ⟨_, rfl⟩
          rw [← hv] at hsn ⊢
          obtain ⟨z, hz⟩ : ∃ z : Nat, z = k + 1 := ⟨_, rfl⟩
          rw [← hz] at hsn
          have hw1 : IntKind.i64.wrap ((k : Int) + 1) = (z : Int) := by rw [IntKind.wrap_i64]; omega
          have hw2 : IntKind.u64.wrap (z : Int) = (z : Int) := by rw [IntKind.wrap_u64]; omega
          have q0 : (0 : Int) ≤ (k : Int) := by omega
          have q1 : (k : Int) < (t : Int) := by omega
          have HSN := Lib.hid hsn
          have HZ := Lib.hid hz
          clear hsn hx hv hz hcl hkl
          go_wp2
          go_quiet ((first
            | (go_at_call 35; exact quiet_any (rmul_quiet 37 v))
            | (go_at_call 55; exact quiet_any (quiet_same (radd_any _ _)))))
          clear hw1 hw2
          go_wp2_with (go_at_call 24; refine (rpow_any _ 17 _ (by omega)).mono ?_; rintro e w5 ⟨rfl, hb5⟩)
          go_roundw
          case rel => exact ⟨k + 1, hlt, by go_num, by rw [← HZ.out, HSN.out]; rfl, hbx.trans ((below_of_drewN hb5).mono (by have := hbx.size; simp; omega))⟩
          case measure => simp [intOf]; omega
        · have hkt : all.take k = all := List.take_of_length_le (by rw [HLEN.out]; omega)
          have hof : Hsh.st s.data.toList all = Hsh.of s.data.toList l := by rw [HALL2.out]; exact Hsh.rall_of _ _
          rw [hkt, hof]
          have hfin := HBF.out _ hbx
          clear hkt hof
          go_wp2
          go_ret
          exact ⟨rfl, hfin⟩

theorem rsecret_any (s : ByteArray) (l : List Nat) (A : Option Addr) (m c : Nat) (w : World) (hs : s.size ≤ 1000000) (hm : m = l.length) (hmb : m ≤ 1000000) (hA : Rd w.heap.size w A (u64s l)) :
    Calls Try.prog 30 #[.string s, .slice A m c] w fun e w' => e = .returned (.int .u64 (Hsh.secret s.data.toList l : Nat)) ∧ Below w.heap.size w w' := by
  have hof := rof_any s l A m c w hs hm hmb hA
  have hlt := Hsh.of_lt s.data.toList l
  obtain ⟨y, hy⟩ : ∃ y : Nat, y = Hsh.of s.data.toList l := ⟨_, rfl⟩
  have hsec : Hsh.secret s.data.toList l = 1 + y % 2305843009213693949 := by rw [hy]; rfl
  rw [← hy] at hof hlt
  rw [hsec]
  obtain ⟨z, hz⟩ : ∃ z : Nat, z = y % 2305843009213693949 := ⟨_, rfl⟩
  have hz1 : (y : Int) % 2305843009213693949 = (z : Int) := by omega
  have hz2 : z < 2305843009213693949 := by omega
  rw [← hz]
  have HOF := Lib.hid hof
  clear hof hy hsec hz hm hA
  go_enter Try.func30, Try.ntmps30
  go_wp2_with fail
  refine (HOF.out).mono ?_
  rintro e w' ⟨rfl, hb⟩
  go_wp2
  go_ret
  exact ⟨ret_u64 (by omega), hb⟩

set_option maxRecDepth 100000 in
set_option maxHeartbeats 1000000 in
theorem rbytes_any (s : ByteArray) (xs : List UInt8) (A : Option Addr) (m c : Nat) (w : World) (hs : s.size ≤ 1000000) (hm : m = xs.length) (hmb : m ≤ 1000000) (hA : Rd w.heap.size w A (u8s xs)) :
    Calls Try.prog 45 #[.string s, .slice A m c] w fun e w' => e = .returned (.int .u64 (Hsh.bytes s.data.toList xs : Nat)) ∧ Below w.heap.size w w' := by
  obtain ⟨i0, hi, hz0, hz1, hz2⟩ := info_parts info_u64
  have hwr := rwords_any xs A m c w hm hmb hA
  have hqs : Hsh.sevens m ≤ 142859 := by unfold Hsh.sevens; omega
  have HWR := Lib.hid hwr
  have HLEN := Lib.hid (show Hsh.sevens m + 1 = (Hsh.words xs ++ [m]).length by rw [List.length_append, Hsh.words_len, ← hm]; rfl)
  have HSN := Lib.hid (u64s_snoc (Hsh.words xs) m).symm
  have HI := Lib.hid hi
  have HZ0 := Lib.hid hz0
  have HZ1 := Lib.hid hz1
  have HZ2 := Lib.hid hz2
  have HM := Lib.hid hm
  obtain ⟨q, hq⟩ : ∃ q, q = Hsh.sevens m := ⟨_, rfl⟩
  rw [← hq] at HWR hqs HLEN
  clear hi hz0 hz1 hz2 hwr hm hA hq
  go_enter Try.func45, Try.ntmps45
  go_wp2_with fail
  refine (HWR.out).mono ?_
  rintro e w3 ⟨A1, c1, rfl, hrow, hbel⟩
  have HROW := Lib.hid hrow
  clear hrow
  go_wp2_with (first
    | (at_builtin; refine wpList_append_own _ rfl _ _ 26 rfl w.heap.size 22 i0 (.int .u64 0) 1 8 Try.underlying26 HI.out HZ0.out HZ1.out HZ2.out rfl (by decide) _ _ _ rfl (HROW.out.alloc _) ⟨w3.heap.size, 0, none⟩ 1 1 [.int .u64 (m : Int)] rfl rfl (cell_one_new _ _ _) (by simp [Value.oneCell']) (by unfold maxLen; omega) (by omega) (by have := hbel.size; simp; omega) ?_; intro v' w4 hown' hgrow _; obtain ⟨g2, cap2, rfl⟩ := ownsRow_succ hown'; have HOWN := Lib.hid hown'; clear hown')
    | (go_at_call 44; refine (rof_any s (Hsh.words xs ++ [m]) (some ⟨g2, 0, none⟩) (q + 1) cap2 w4 hs HLEN.out (by omega) (Rd.of_own (HSN.out ▸ HOWN.out))).mono ?_; rintro e w5 ⟨rfl, hb5⟩))
  go_ret
  refine ⟨by rw [HM.out]; rfl, ?_⟩
  have hg2 : (w3.alloc (.cells #[.int .u64 (m : Int)] 22)).grownBy w4 (Value.slice A1 q c1).ownBlock := hgrow
  exact (hbel.trans (((Below.refl _ w3).alloc (hbel.size) _).grown hg2 (by simp; have := hbel.size; omega) (fun j e => (HROW.out.lt j e).1))).trans (hb5.mono (by have := hbel.size; have := hg2.size; simp at this; omega))

end Go.Proofs.Ytdiacpadbndncaa
