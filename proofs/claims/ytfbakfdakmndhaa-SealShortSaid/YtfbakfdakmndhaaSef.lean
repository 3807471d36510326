/-
  The reference's bytes of chapter 7: what is masked, the tag, what is sealed and opened: the same as package seal's; what was there is left as it was. Keys of 64 bits, up to a million bytes.
-/
import Derived.Test.YtfbakfdakmndhaaSee
import Derived.Deep.AppendLies
namespace Go.Proofs.Ytfbakfdakmndhaa
open Go.RowKit

theorem rsecret_at (k B : Nat) (w : World) (hB : Blk w B 22 #[.int .u64 (k : Int)]) :
    Calls Try.prog 33 #[.string ⟨#[115, 101, 97, 108]⟩, .slice (some ⟨B, 0, none⟩) 1 1] w fun e w' => e = .returned (.int .u64 (Sl.key k : Nat)) ∧ Below w.heap.size w w' :=
  rsecret_any ⟨#[115, 101, 97, 108]⟩ [k] _ 1 1 w (by decide) rfl (by omega) (Sl.rd_blk hB rfl)
theorem mask_next (k : Nat) (l : List UInt8) (j : Nat) (hj : j < l.length) : (Sl.mask k l).take (j + 1) = (Sl.mask k l).take j ++ [l[j] ^^^ Hsh.streamU (Sl.key k) j] := by
  rw [List.take_add_one, Sl.mask_get k l j hj]
  rfl
theorem stream_cell {B : Nat} {w : World} {A : Option Addr} {key n j : Nat} (h : Rd B w A (u8s (Hsh.stream key n))) (hj : j < n) : ∃ b off, A = some ⟨b, off, none⟩ ∧ b < B ∧ w.cell? ⟨b, off + j, none⟩ = some (.int .u8 ((Hsh.streamU key j).toNat : Int)) := by
  obtain ⟨b, off, e, hb, hc⟩ := byte_cell h (k := j) (by rw [Hsh.stream_len]; exact hj)
  refine ⟨b, off, e, hb, ?_⟩
  rw [hc]
  simp [Hsh.stream]

set_option maxRecDepth 100000 in
set_option maxHeartbeats 2000000 in
theorem rxor_any (l : List UInt8) (A : Option Addr) (n c k : Nat) (w : World) (hA : Bt w A n c l) (hb : n ≤ 1000000) :
    Calls Try.prog 23 #[.int .u64 k, .slice A n c] w fun e w' => (∃ A' c', e = .returned (.slice A' n c') ∧
      w'.ownsRow w.heap.size 5 1 (.slice A' n c') n (u8s (Sl.mask k l))) ∧ Below w.heap.size w w' := by
  obtain ⟨i0, hi, hz0, hz1, hz2⟩ := info_parts info_u8
  have HI := Lib.hid hi
  have HZ0 := Lib.hid hz0
  have HZ1 := Lib.hid hz1
  have HZ2 := Lib.hid hz2
  have HK := Lib.hid (fun W B => rsecret_at k B W)
  have HS := Lib.hid (fun W => rstream_any (Sl.key k) n W hb)
  obtain ⟨key, hkey⟩ : ∃ key, key = Sl.key k := ⟨_, rfl⟩
  rw [← hkey] at HK HS
  have HKE := Lib.hid hkey
  have HA := Lib.hid hA
  clear hi hz0 hz1 hz2 hkey hA
  go_enter Try.func23, Try.ntmps23
  go_wp2_with fail
  refine (HK.out _ w.heap.size (blk_new w 22 _)).mono ?_
  rintro e w1 ⟨rfl, hb1'⟩
  have hb1 := Sl.below_new hb1'
  clear hb1'
  go_wp2_with fail
  refine (HS.out _).mono ?_
  rintro e w2 ⟨S, cs, rfl, hrow, hb2⟩
  have hk2 := kept_trans hb1 hb2
  have hrd : Rd w2.heap.size w2 S (u8s (Hsh.stream key n)) := Rd.of_own hrow
  have hA2 := HA.out.below hk2
  obtain ⟨B, hB⟩ : ∃ B, B = w2.heap.size := ⟨_, rfl⟩
  have hwB : w.heap.size ≤ B := by rw [hB]; exact hk2.size
  have hr2 : Rd B w2 A (u8s l) := by rw [hB]; exact hA2.rd
  rw [← hB] at hrd
  have hbel0 : Below B w2 w2 := Below.refl _ _
  have hnil := World.ownsRow_nil w2 B 5 1
  have HRD := Lib.hid hrd
  have HR2 := Lib.hid hr2
  have HB := Lib.hid hB
  have HNIL := Lib.hid hnil
  have HK2 := Lib.hid hk2
  clear hrow hb1 hb2 hrd hA2 hr2 hB hnil hk2
  go_wp2
  go_loopw [6, 7] (fun o i wr => ∃ j : Nat, j ≤ n ∧ i = .int .i64 (j : Int) ∧ (∃ A' c', o = .slice A' j c') ∧ wr.ownsRow B 5 1 o j (u8s ((Sl.mask k l).take j)) ∧ Below B w2 wr) (fun _ i _ => n - (intOf i).toNat)
  case atStart => exact ⟨0, Nat.zero_le _, rfl, ⟨_, _, rfl⟩, HNIL.out, hbel0⟩
  case round =>
    obtain ⟨j, hj, rfl, ⟨A1, c1, rfl⟩, hrow, hbr⟩ := hrel
    have HROW := Lib.hid hrow
    clear hrow
    by_cases hlt : j < n
    · have hjl : j < l.length := by rw [← HA.out.len]; exact hlt
      obtain ⟨b, off, rfl, hbB, hcx⟩ := byte_cell (HR2.out.below hbr) hjl
      obtain ⟨b2, off2, rfl, hbB2, hcy⟩ := stream_cell (HRD.out.below hbr) hlt
      have hnx := mask_next k l j hjl
      have hx := u8_xor_is l[j] (Hsh.streamU key j)
      rw [← HKE.out] at hnx
      obtain ⟨z, hz⟩ : ∃ z : UInt8, z = l[j] ^^^ Hsh.streamU key j := ⟨_, rfl⟩
      rw [← hz] at hx hnx
      have hu := u8s_snoc ((Sl.mask k l).take j) z
      rw [← hnx] at hu
      have HN := Lib.hid hu
      obtain ⟨y, hy⟩ : ∃ y, y = (Hsh.streamU key j).toNat := ⟨_, rfl⟩
      obtain ⟨x, hx'⟩ : ∃ x, x = (l[j]).toNat := ⟨_, rfl⟩
      rw [← hy] at hx hcy
      rw [← hx'] at hx hcx
      have hz8 : z.toNat < 256 := z.toNat_lt
      obtain ⟨v, hv⟩ : ∃ v, v = z.toNat := ⟨_, rfl⟩
      rw [← hv] at hx HN hz8
      have q0 : (0 : Int) ≤ (j : Int) := by omega
      have q1 : (j : Int) < (n : Int) := by omega
      have hBr : B ≤ wr.heap.size := by have := HB.out; have := hbr.size; omega
      clear hy hx' hz hnx hu hjl hv
      go_wp2_with fail
      have k0 : wr.cell? ⟨b, off + j, none⟩ = some (.int .u8 (x : Int)) ∧ wr.cell? ⟨b2, off2 + j, none⟩ = some (.int .u8 (y : Int)) := ⟨hcx, hcy⟩
      have k1 : wr.drew.cell? ⟨b, off + j, none⟩ = some (.int .u8 (x : Int)) ∧ wr.drew.cell? ⟨b2, off2 + j, none⟩ = some (.int .u8 (y : Int)) := k0
      have k2 : (wr.alloc (.cells #[.int .u8 (v : Int)] 5)).drew.cell? ⟨b, off + j, none⟩ = some (.int .u8 (x : Int)) ∧ (wr.alloc (.cells #[.int .u8 (v : Int)] 5)).drew.cell? ⟨b2, off2 + j, none⟩ = some (.int .u8 (y : Int)) := ⟨cell_alloc_l _ hcx, cell_alloc_l _ hcy⟩
      go_region_held3 (fun w' : World => w'.cell? ⟨b, off + j, none⟩ = some (.int .u8 (x : Int)) ∧ w'.cell? ⟨b2, off2 + j, none⟩ = some (.int .u8 (y : Int)))
        ((first | with_reducible exact k0 | with_reducible exact k1 | with_reducible exact k2 | with_reducible exact k3))
        ((refine step_append_lies (wr.alloc (.cells #[.int .u8 (v : Int)] 5)).drew rfl (.tmp 20) (.tmp 30) 23 rfl B 5 i0 (.int .u8 0) 1 1 Try.underlying23 HI.out HZ0.out HZ1.out HZ2.out rfl (by decide) (.slice A1 j c1) j (u8s ((Sl.mask k l).take j)) rfl ((HROW.out.alloc _).drew) ⟨wr.heap.size, 0, none⟩ 1 1 [.int .u8 (v : Int)] rfl rfl (cell_one_new _ _ _) (by simp [Value.oneCell']) (by omega) (by unfold maxLen; omega) (by omega) (by simp; omega) _ rfl ?_; intro g4 cap4 w4 hown4 hgrow4 _ _; have hg4 : wr.grownBy w4 (Value.slice A1 j c1).ownBlock := ⟨hgrow4.os, hgrow4.tape, hgrow4.output, Nat.le_trans (by simp) hgrow4.size, fun i hi hne => (hgrow4.block i (by simp; omega) hne).trans (Below.heap_alloc wr _ i hi)⟩; have k3 := And.intro (hg4.cell hcx (fun e => by have := (HROW.out.lt _ e.symm).1; simp at this; omega)) (hg4.cell hcy (fun e => by have := (HROW.out.lt _ e.symm).1; simp at this; omega)); have HO4 := Lib.hid hown4; clear hown4))
      clear k0 k1 k2 k3 hcx hcy
      go_wp2
      go_roundw
      case rel =>
        refine ⟨j + 1, hlt, by go_num, ⟨_, _, rfl⟩, ?_, hbr.grown hg4 hBr (fun i e => (HROW.out.lt i e).1)⟩
        rw [HN.out]
        exact HO4.out
      case measure => simp [intOf]; omega
    · obtain rfl : j = n := by omega
      go_wp2
      go_ret
      have h := HROW.out
      rw [List.take_of_length_le (by rw [Sl.mask_len, ← HA.out.len]; exact Nat.le_refl _)] at h
      exact ⟨⟨A1, c1, rfl, own_base h hwB⟩, HK2.out.trans (hbr.mono hwB)⟩

theorem rof3_at (k x y B : Nat) (w : World) (hB : Blk w B 22 #[.int .u64 (k : Int), .int .u64 (x : Int), .int .u64 (y : Int)]) :
    Calls Try.prog 34 #[.string ⟨#[109, 97, 99]⟩, .slice (some ⟨B, 0, none⟩) 3 3] w fun e w' => e = .returned (.int .u64 (Hsh.of Sl.macLabel [k, x, y] : Nat)) ∧ Below w.heap.size w w' :=
  rof_any ⟨#[109, 97, 99]⟩ [k, x, y] _ 3 3 w (by decide) rfl (by omega) (Sl.rd_blk hB rfl)
theorem tag_next (s j : Nat) (hj : j < 8) : (Sl.tagOf s).take (j + 1) = (Sl.tagOf s).take j ++ [Sl.tagU s j] := by
  rw [List.take_add_one, tagOf_get s j hj]
  rfl

set_option maxRecDepth 100000 in
set_option maxHeartbeats 2000000 in
theorem rtag_any (a b : List UInt8) (A A' : Option Addr) (n c n' c' k : Nat) (w : World) (hA : Bt w A n c a) (hA' : Bt w A' n' c' b) (hb : n ≤ 1000000) (hb' : n' ≤ 1000000) :
    Calls Try.prog 24 #[.int .u64 k, .slice A n c, .slice A' n' c'] w fun e w' =>
      (∃ g cap, e = .returned (.slice (some ⟨g, 0, none⟩) 8 cap) ∧ w'.ownsRow w.heap.size 5 1 (.slice (some ⟨g, 0, none⟩) 8 cap) 8 (u8s (Sl.tag k a b))) ∧ Below w.heap.size w w' := by
  obtain ⟨i0, hi, hz0, hz1, hz2⟩ := info_parts info_u8
  have HI := Lib.hid hi
  have HZ0 := Lib.hid hz0
  have HZ1 := Lib.hid hz1
  have HZ2 := Lib.hid hz2
  have HX := Lib.hid (rbytes_any ⟨#[97, 108, 111, 110, 103]⟩ a A n c w (by decide) hA.len hb hA.rd)
  have HY := Lib.hid (fun W (h : Bt W A' n' c' b) => rbytes_any ⟨#[116, 101, 120, 116]⟩ b A' n' c' W (by decide) h.len hb' h.rd)
  have hx : Hsh.bytes (⟨#[97, 108, 111, 110, 103]⟩ : ByteArray).data.toList a = Sl.alongs a := rfl
  have hy : Hsh.bytes (⟨#[116, 101, 120, 116]⟩ : ByteArray).data.toList b = Sl.texts b := rfl
  have hxl := Sl.alongs_lt a
  have hyl := Sl.texts_lt b
  have hs : Hsh.of Sl.macLabel [k, Sl.alongs a, Sl.texts b] = Sl.sum k a b := rfl
  have ht : Sl.tag k a b = Sl.tagOf (Sl.sum k a b) := rfl
  have hsl := Sl.sum_lt k a b
  have HO := Lib.hid (fun W B h => rof3_at k (Sl.alongs a) (Sl.texts b) B W h)
  rw [hx] at HX
  rw [hy] at HY
  rw [hs] at HO
  rw [ht]
  obtain ⟨x, hx'⟩ : ∃ x, x = Sl.alongs a := ⟨_, rfl⟩
  obtain ⟨y, hy'⟩ : ∃ y, y = Sl.texts b := ⟨_, rfl⟩
  obtain ⟨s, hs'⟩ : ∃ s, s = Sl.sum k a b := ⟨_, rfl⟩
  rw [← hx'] at HX HO hxl
  rw [← hy'] at HY HO hyl
  rw [← hs'] at HO hsl ⊢
  have HA' := Lib.hid hA'
  clear hx hy hs ht hx' hy' hs' hA hA' hi hz0 hz1 hz2
  go_enter Try.func24, Try.ntmps24
  go_wp2_with fail
  refine (HX.out).mono ?_
  rintro e w1 ⟨rfl, hb1⟩
  have hA1 := HA'.out.below hb1
  go_wp2_with fail
  refine (HY.out _ hA1).mono ?_
  rintro e w2 ⟨rfl, hb2⟩
  have hk2 := kept_trans hb1 hb2
  clear hb1 hb2 hA1
  go_wp2_with fail
  refine (HO.out _ w2.heap.size (blk_new w2 22 _)).mono ?_
  rintro e w3 ⟨rfl, hb3'⟩
  have hk3 := kept_trans hk2 (Sl.below_new hb3')
  have HNIL := Lib.hid (World.ownsRow_nil w3 w.heap.size 5 1)
  have HK3 := Lib.hid hk3
  have HS0 := Lib.hid (show s = s / 256 ^ 0 by rw [Nat.pow_zero, Nat.div_one])
  clear hb3' hk2 hk3
  go_wp2
  go_loopw [7, 8, 9] (fun v o i wr => ∃ j z : Nat, j ≤ 8 ∧ i = .int .i64 (j : Int) ∧ v = .int .u64 (z : Int) ∧ z = s / 256 ^ j ∧ z < 2305843009213693951 ∧ (∃ A' c', o = .slice A' j c') ∧ wr.ownsRow w.heap.size 5 1 o j (u8s ((Sl.tagOf s).take j)) ∧ Below w.heap.size w wr) (fun _ _ i _ => 8 - (intOf i).toNat)
  case atStart => exact ⟨0, s, Nat.zero_le _, rfl, rfl, HS0.out, hsl, ⟨_, _, rfl⟩, HNIL.out, HK3.out⟩
  case round =>
    obtain ⟨j, z, hj, rfl, rfl, hz, hzl, ⟨A1, c1, rfl⟩, hrow, hbr⟩ := hrel
    have HR := Lib.hid hrow
    have HZ := Lib.hid hz
    clear hrow hz
    by_cases hlt : j < 8
    · obtain ⟨q, hq⟩ : ∃ q : Nat, q = z % 256 := ⟨_, rfl⟩
      have hzq : (z : Int) % 256 = (q : Int) := by omega
      obtain ⟨z2, hz2⟩ : ∃ z2 : Nat, z2 = z / 256 := ⟨_, rfl⟩
      have hdv : (z : Int) / 256 = (z2 : Int) := by omega
      have hz2l : z2 < 2305843009213693951 := by omega
      have hz2e : z2 = s / 256 ^ (j + 1) := by rw [hz2, HZ.out, Nat.pow_succ, Nat.div_div_eq_div_mul]
      have hq8 : q < 256 := by omega
      have hu := u8s_snoc ((Sl.tagOf s).take j) (Sl.tagU s j)
      rw [← tag_next s j hlt, Sl.tagU_val, ← HZ.out, ← hq] at hu
      have HU := Lib.hid hu
      have HZE := Lib.hid hz2e
      have hwr := hbr.size
      clear hq hz2 hz2e hu
      go_wp2_with (at_builtin; refine wpList_append_own _ rfl _ _ 23 rfl w.heap.size 5 i0 (.int .u8 0) 1 1 Try.underlying23 HI.out HZ0.out HZ1.out HZ2.out rfl (by decide) _ _ _ rfl (HR.out.alloc _) ⟨wr.heap.size, 0, none⟩ 1 1 [.int .u8 (q : Int)] rfl rfl (cell_one_new _ _ _) (by simp [Value.oneCell']) (by unfold maxLen; omega) (by omega) (by simp; omega) ?_; intro v' w4 hown' hgrow4 _; obtain ⟨g4, cap4, rfl⟩ := ownsRow_succ hown'; have HO4 := Lib.hid hown'; clear hown')
      go_roundw
      case rel =>
        refine ⟨j + 1, z2, hlt, by go_num, rfl, HZE.out, hz2l, ⟨_, _, rfl⟩, ?_, ?_⟩
        · have h := HO4.out
          rw [HU.out]
          exact h
        · have hg4 : (wr.alloc (.cells #[.int .u8 (q : Int)] 5)).grownBy w4 (Value.slice A1 j c1).ownBlock := hgrow4
          exact hbr.trans (((Below.refl _ wr).alloc hwr _).grown hg4 (by simp; omega) (fun j e => (HR.out.lt j e).1))
      case measure => simp [intOf]; omega
    · obtain rfl : j = 8 := by omega
      go_wp2
      go_ret
      have h := HR.out
      rw [List.take_of_length_le (by rw [Sl.tagOf_len]; exact Nat.le_refl _)] at h
      obtain ⟨g, cap, e⟩ := ownsRow_succ h
      injection e with e1 _ e3
      subst e1 e3
      exact ⟨⟨g, c1, rfl, h⟩, hbr⟩

set_option maxRecDepth 100000 in
set_option maxHeartbeats 2000000 in
theorem rseal_any (a t : List UInt8) (A A' : Option Addr) (n c n' c' k : Nat) (w : World) (hA : Bt w A n c a) (hA' : Bt w A' n' c' t) (hb : n ≤ 1000000) (hb' : n' ≤ 1000000) :
    Calls Try.prog 14 #[.int .u64 k, .slice A n c, .slice A' n' c'] w fun e w' => (∃ g cap, e = .returned (.slice (some ⟨g, 0, none⟩) (n' + 8) cap) ∧
      w'.ownsRow w.heap.size 5 1 (.slice (some ⟨g, 0, none⟩) (n' + 8) cap) (n' + 8) (u8s (Sl.put k a t))) ∧ Below w.heap.size w w' := by
  obtain ⟨i0, hi, hz0, hz1, hz2⟩ := info_parts info_u8
  have HI := Lib.hid hi
  have HZ0 := Lib.hid hz0
  have HZ1 := Lib.hid hz1
  have HZ2 := Lib.hid hz2
  have HX := Lib.hid (rxor_any t A' n' c' k w hA' hb')
  have hpt : u8s (Sl.put k a t) = u8s (Sl.mask k t) ++ u8s (Sl.tag k a (Sl.mask k t)) := u8s_app _ _
  rw [hpt]
  have HT := Lib.hid (fun W A1 c1 (h : Bt W A n c a) (h2 : Bt W A1 n' c1 (Sl.mask k t)) => rtag_any a (Sl.mask k t) A A1 n c n' c1 k W h h2 hb hb')
  have htl := Sl.tag_len k a (Sl.mask k t)
  obtain ⟨m, hm⟩ : ∃ m, m = Sl.mask k t := ⟨_, rfl⟩
  rw [← hm] at HX HT htl ⊢
  obtain ⟨q, hq⟩ : ∃ q, q = Sl.tag k a m := ⟨_, rfl⟩
  rw [← hq] at HT htl ⊢
  have HA := Lib.hid hA
  have HTL := Lib.hid (show (u8s q).length = 8 * 1 by rw [u8s_len, htl])
  clear hm hq hA hA' htl hpt hi hz0 hz1 hz2
  go_enter Try.func14, Try.ntmps14
  go_wp2_with fail
  refine (HX.out).mono ?_
  rintro e w1 ⟨⟨A1, c1, rfl, hrow⟩, hb1⟩
  have HR := Lib.hid hrow
  clear hrow
  go_wp2_with fail
  refine (HT.out _ A1 c1 (HA.out.below hb1) (Bt.of_own HR.out)).mono ?_
  rintro e w2 ⟨⟨g2, cap2, rfl, hrow2⟩, hb2⟩
  have hk2 := kept_trans hb1 hb2
  have HR1 := Lib.hid (own_below HR.out hb2)
  have HR2 := Lib.hid (Bt.of_own hrow2)
  have hs2 := hk2.size
  clear hrow2 hb1 hb2 HR
  go_wp2_with (at_builtin; refine wpList_append_lies w2 rfl _ _ 23 rfl w.heap.size 5 i0 (.int .u8 0) 1 1 Try.underlying23 HI.out HZ0.out HZ1.out HZ2.out rfl (by decide) (.slice A1 n' c1) n' (u8s m) rfl HR1.out ⟨g2, 0, none⟩ 8 cap2 (u8s q) rfl HTL.out (src_rd HR2.out.rd) (u8s_one q) (by omega) (by unfold maxLen; omega) (by omega) hs2 _ rfl ?_; intro g4 cap4 w4 hown4 hgrow4 _ _; have HO4 := Lib.hid hown4; clear hown4)
  go_ret
  exact ⟨⟨g4, cap4, rfl, HO4.out⟩, hk2.grown hgrow4 hs2 (fun j e => (HR1.out.lt j e).1)⟩

end Go.Proofs.Ytfbakfdakmndhaa
