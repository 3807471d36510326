/-
  Boxes written; nodes and sealed keys written by closures. For up to 900000 bytes in all.
-/
import Derived.Test.YtkicjjcangkneaaGreatDoorOtd
namespace Go.Proofs.YtkicjjcangkneaaGreatDoor
open Go.RowKit
attribute [local go_sem ↓] Go.wp_at_zero Go.wp_at_succ
set_option maxRecDepth 100000
namespace Ot
set_option maxHeartbeats 1000000 in
theorem wboxes {lo hi O : Nat} {l : List UInt8} {w : World} (x : Ls Bx) (hx : Lz kBx (From lo) w x) (hok : okEach okBx x.l) (hl : (l ++ wEach nBx x.l).length ≤ 900000) (h : Ou lo hi w O l) :
    Calls Tryz.prog 123 #[.pointer (some ⟨O, 0, none⟩), x.v] w fun e w' => (∃ r, e = .returned r) ∧ Wr lo w w' O (l ++ wEach nBx x.l) := by
  obtain ⟨hw, hbk⟩ := Wr.new h (.cells #[.pointer (some ⟨O, 0, none⟩)] 95)
  have hP := blk_new w 95 #[.pointer (some ⟨O, 0, none⟩)]
  have HC := Lib.hid (weach_bx x (hx.bf (from_below hbk.1)) hok.2 hok.1 hl hP hw.1)
  have HBK := Lib.hid hbk
  obtain ⟨xs, A, c⟩ := x
  obtain ⟨L, hL⟩ : ∃ L, L = l ++ wEach nBx xs := ⟨_, rfl⟩
  show Calls _ _ #[_, .slice A xs.length c] w fun e w' => (∃ r, e = .returned r) ∧ Wr lo w w' O (l ++ wEach nBx xs)
  rw [← hL]
  have HC2 := Lib.hid (show Calls _ _ #[.pointer (some ⟨O, 0, none⟩), .slice A xs.length c, .func (.func 183) #[] #[.pointer (some ⟨w.heap.size, 0, none⟩)]] _ fun e w' => (∃ r, e = .returned r) ∧ Wr lo _ w' O L from hL ▸ HC.out)
  clear hw hbk hP hx hok hl h HC hL
  go_enter Tryz.func123, Tryz.ntmps123
  go_wp2_with fail
  refine (HC2.out).mono ?_
  rintro e w1 ⟨⟨_, rfl⟩, hou⟩
  have HW := Lib.hid (Wr.after HBK.out hou)
  clear hou HC2
  go_wp2
  go_end0
  exact ⟨⟨_, rfl⟩, HW.out⟩

set_option maxHeartbeats 1000000 in
theorem clo_nd {lo hi O D : Nat} {l : List UInt8} {w : World} (y : LNd) (hy : okNd y.er) (hx : Lz kBx (From lo) w y.boxes) (hl : (l ++ nNd y.er).length ≤ 900000) (hD : Blk w D 95 #[.pointer (some ⟨O, 0, none⟩)]) (h : Ou lo hi w O l) :
    Calls Tryz.prog 122 #[.agg #[.int .u64 (y.pub : Int), .slice y.boxes.A y.boxes.l.length y.boxes.c], .pointer (some ⟨D, 0, none⟩)] w fun e w' => (∃ r, e = .returned r) ∧ Wr lo w w' O (l ++ nNd y.er) := by
  obtain ⟨hw, hbk⟩ := Wr.new h (.cells #[.int .u64 (y.pub : Int), .slice y.boxes.A y.boxes.l.length y.boxes.c] 66)
  have hP := blk_new w 66 #[.int .u64 (y.pub : Int), .slice y.boxes.A y.boxes.l.length y.boxes.c]
  have hDa := blk_alloc hD (.cells #[.int .u64 (y.pub : Int), .slice y.boxes.A y.boxes.l.length y.boxes.c] 66)
  have hlow := h.lt
  have hlow : lo ≤ w.heap.size := by omega
  obtain ⟨L, hL⟩ : ∃ L, L = l ++ nNd y.er := ⟨_, rfl⟩
  rw [← hL] at hl ⊢
  unfold nNd at hL
  simp only [LNd.er] at hL
  have HX := Lib.hid hx
  have HW := Lib.hid hw
  have HBK := Lib.hid hbk
  have HP := Lib.hid hP
  have HD := Lib.hid hDa
  have HL := Lib.hid hL
  have HLL := Lib.hid hl
  have HY := Lib.hid hy
  clear hw hbk hP hDa hl hL hy hD h hlow hx
  go_enter Tryz.func122, Tryz.ntmps122
  have d0 := (HW.out.2.2 (D) 95 _ (by decide) (by decide) HD.out).cell 0
  have c0 := (HW.out.2.2 (w.heap.size) 66 _ (by decide) (by decide) HP.out).cell 0
  have hlen : _ := HLL.out
  rw [HL.out] at hlen
  simp only [List.length_append] at hlen
  have HO := Lib.hid (onum_any y.pub HY.out.1 (by (try simp only [List.length_append]); omega) HW.out.1)
  go_wp2_with fail
  refine (HO.out).mono ?_
  rintro e w1 ⟨⟨_, rfl⟩, hou⟩
  have HW' := Lib.hid (Wr.after HW.out.2 hou)
  clear hou HO HW d0 c0 hlen
  have HW := HW'
  clear HW'
  have d0 := (HW.out.2.2 (D) 95 _ (by decide) (by decide) HD.out).cell 0
  have c1 := (HW.out.2.2 (w.heap.size) 66 _ (by decide) (by decide) HP.out).cell 1
  have hlen : _ := HLL.out
  rw [HL.out] at hlen
  simp only [List.length_append] at hlen
  have HO := Lib.hid (wboxes y.boxes (HX.out.bf (from_below (HBK.out.1.trans HW.out.2.1))) HY.out.2 (by (try simp only [List.length_append]); omega) HW.out.1)
  go_wp2_with fail
  refine (HO.out).mono ?_
  rintro e w2 ⟨⟨_, rfl⟩, hou⟩
  have HW' := Lib.hid (Wr.after HW.out.2 hou)
  clear hou HO HW d0 c1 hlen
  have HW := HW'
  clear HW'
  go_wp2
  go_end0
  refine ⟨⟨_, rfl⟩, ?_⟩
  rw [HL.out]
  have := Wr.after HBK.out HW.out
  simpa only [List.append_assoc] using this

set_option maxHeartbeats 1000000 in
theorem weach_nd {lo hi O D : Nat} {l : List UInt8} {w : World} (x : Ls LNd) (hx : Lz kNd (From lo) w x) (hok : ∀ y ∈ x.l, okNd y.er) (hlen : x.l.length ≤ 1000) (hl : (l ++ wEach (fun y : LNd => nNd y.er) x.l).length ≤ 900000) (hD : Blk w D 95 #[.pointer (some ⟨O, 0, none⟩)]) (hxb : ∀ y ∈ x.l, Lz kBx (From lo) w y.boxes) (h : Ou lo hi w O l) :
    Calls Tryz.prog 121 #[.pointer (some ⟨O, 0, none⟩), x.v, .func (.func 122) #[] #[.pointer (some ⟨D, 0, none⟩)]] w fun e w' => (∃ r, e = .returned r) ∧ Wr lo w w' O (l ++ wEach (fun y : LNd => nNd y.er) x.l) := by
  obtain ⟨xs, A, c⟩ := x
  obtain ⟨n, hn⟩ : ∃ n, n = xs.length := ⟨_, rfl⟩
  have hlen : n ≤ 1000 := by rw [hn]; exact hlen
  have hl0 : l.length ≤ 900000 := by rw [List.length_append] at hl; omega
  have HO := Lib.hid (oint_any (n : Nat) (by omega) (by omega) (by omega) h)
  obtain ⟨l1, hl1⟩ : ∃ l1, l1 = l ++ Pk.nInt (n : Nat) := ⟨_, rfl⟩
  have hlt : ∀ (k : Nat) (y : LNd), xs[k]? = some y → (l1 ++ (xs.take k).flatMap ((fun y : LNd => nNd y.er))).length + ((fun y : LNd => nNd y.er) y).length ≤ 900000 := by
    intro k y hy
    have h1 := flat_item ((fun y : LNd => nNd y.er)) xs k y hy
    have h2 : (l ++ wEach ((fun y : LNd => nNd y.er)) xs).length ≤ 900000 := hl
    unfold wEach at h2
    rw [← hn] at h2
    rw [hl1]
    simp only [List.length_append] at h2 ⊢
    omega
  have hfin : l ++ wEach ((fun y : LNd => nNd y.er)) xs = l1 ++ (xs.take n).flatMap ((fun y : LNd => nNd y.er)) := by
    rw [hl1, hn, List.take_length, List.append_assoc]
    rfl
  show Calls _ _ #[_, .slice A xs.length c, _] w fun e w' => (∃ r, e = .returned r) ∧ Wr lo w w' O (l ++ wEach ((fun y : LNd => nNd y.er)) xs)
  rw [hfin, ← hn]
  rw [← hl1] at HO
  have HX := Lib.hid hx
  have HOK := Lib.hid hok
  have HLT := Lib.hid hlt
  have HN := Lib.hid hn
  have HD := Lib.hid hD
  have HXB := Lib.hid hxb
  clear hx hok hl hl0 h hlt hfin hl1 hn hD hxb
  go_enter Tryz.func121, Tryz.ntmps121
  go_wp2_with fail
  refine (HO.out).mono ?_
  rintro e w1 ⟨⟨_, rfl⟩, hou1⟩
  have HW1 := Lib.hid (show Wr lo w w1 O l1 from hou1)
  clear hou1 HO
  go_wp2
  go_loopw [7, 14] (fun _ i wr => ∃ k : Nat, k ≤ n ∧ i = .int .i64 (k : Int) ∧ Wr lo w wr O (l1 ++ (xs.take k).flatMap ((fun y : LNd => nNd y.er)))) (fun _ i _ => n - (intOf i).toNat)
  case atStart => exact ⟨0, Nat.zero_le _, rfl, by rw [List.take_zero]; simpa using HW1.out⟩
  case round =>
    obtain ⟨k, hk, rfl, hw⟩ := hrel
    by_cases hc : k < n
    · obtain ⟨y, hy⟩ : ∃ y, xs[k]? = some y := ⟨_, List.getElem?_eq_getElem (by have := HN.out; omega)⟩
      have hyo := HOK.out y (List.mem_of_getElem? hy)
      obtain ⟨b, off, rfl, _, _, r0, r1⟩ := (HX.out.bf (from_below hw.2.1)).nd hy
      have hlk := HLT.out k y hy
      have hit := hw.item (.cells #[.int .u64 (y.pub : Int), .slice y.boxes.A y.boxes.l.length y.boxes.c] 66)
      have HC := Lib.hid (clo_nd y hyo ((HXB.out y (List.mem_of_getElem? hy)).bf (from_below hit.2.1)) (by rw [List.length_append]; omega) (hit.2.2 D 95 _ (by decide) (by decide) HD.out) hit.1)
      have HB := Lib.hid hit.2
      have HS := Lib.hid (flat_take ((fun y : LNd => nNd y.er)) xs k y hy)
      clear hyo hlk hw hit HW1
      go_wp2_with (go_at_call 122; refine (HC.out).mono ?_; rintro e w2 ⟨⟨_, rfl⟩, hou2⟩; have HW2 := Lib.hid (Wr.after HB.out hou2); clear hou2 HC)
      clear hy
      go_roundw
      case rel =>
        refine ⟨k + 1, hc, by go_num, ?_⟩
        rw [HS.out, ← List.append_assoc]
        exact HW2.out
      case measure => simp [intOf]; omega
    · have hkn : k = n := by omega
      subst hkn
      have HW := Lib.hid hw
      clear hw
      go_wp2
      go_end0
      exact ⟨⟨_, rfl⟩, HW.out⟩

set_option maxHeartbeats 1000000 in
theorem clo_sd {lo hi O D : Nat} {l : List UInt8} {w : World} (y : LSd) (hy : okSd y.er) (hb : y.body.l.length ≤ 1000) (hx : Lz kU8 (From lo) w y.body) (hl : (l ++ nSd y.er).length ≤ 900000) (hD : Blk w D 95 #[.pointer (some ⟨O, 0, none⟩)]) (h : Ou lo hi w O l) :
    Calls Tryz.prog 128 #[.agg #[.int .i64 y.nm.a, .int .i64 y.nm.b, .int .u64 (y.nm.c : Int), .slice y.body.A y.body.l.length y.body.c], .pointer (some ⟨D, 0, none⟩)] w fun e w' => (∃ r, e = .returned r) ∧ Wr lo w w' O (l ++ nSd y.er) := by
  obtain ⟨hw, hbk⟩ := Wr.new h (.cells #[.int .i64 y.nm.a, .int .i64 y.nm.b, .int .u64 (y.nm.c : Int), .slice y.body.A y.body.l.length y.body.c] 81)
  have hP := blk_new w 81 #[.int .i64 y.nm.a, .int .i64 y.nm.b, .int .u64 (y.nm.c : Int), .slice y.body.A y.body.l.length y.body.c]
  have hDa := blk_alloc hD (.cells #[.int .i64 y.nm.a, .int .i64 y.nm.b, .int .u64 (y.nm.c : Int), .slice y.body.A y.body.l.length y.body.c] 81)
  have hlow := h.lt
  have hlow : lo ≤ w.heap.size := by omega
  obtain ⟨L, hL⟩ : ∃ L, L = l ++ nSd y.er := ⟨_, rfl⟩
  rw [← hL] at hl ⊢
  unfold nSd at hL
  simp only [LSd.er] at hL
  have HX := Lib.hid hx
  have HB := Lib.hid hb
  have HW := Lib.hid hw
  have HBK := Lib.hid hbk
  have HP := Lib.hid hP
  have HD := Lib.hid hDa
  have HL := Lib.hid hL
  have HLL := Lib.hid hl
  have HY := Lib.hid hy
  clear hw hbk hP hDa hl hL hy hD h hlow hx hb
  go_enter Tryz.func128, Tryz.ntmps128
  have d0 := (HW.out.2.2 (D) 95 _ (by decide) (by decide) HD.out).cell 0
  have c0 := (HW.out.2.2 (w.heap.size) 81 _ (by decide) (by decide) HP.out).cell 0
  have c1 := (HW.out.2.2 (w.heap.size) 81 _ (by decide) (by decide) HP.out).cell 1
  have c2 := (HW.out.2.2 (w.heap.size) 81 _ (by decide) (by decide) HP.out).cell 2
  have hlen : _ := HLL.out
  rw [HL.out] at hlen
  simp only [List.length_append] at hlen
  have HO := Lib.hid (oname_any y.nm HY.out.1.1.1 HY.out.1.1.2 HY.out.1.2.1.1 HY.out.1.2.1.2 HY.out.1.2.2 (by (try simp only [List.length_append]); omega) HW.out.1)
  go_wp2_with fail
  refine (HO.out).mono ?_
  rintro e w1 ⟨⟨_, rfl⟩, hou⟩
  have HW' := Lib.hid (Wr.after HW.out.2 hou)
  clear hou HO HW d0 c0 c1 c2 hlen
  have HW := HW'
  clear HW'
  have d0 := (HW.out.2.2 (D) 95 _ (by decide) (by decide) HD.out).cell 0
  have c3 := (HW.out.2.2 (w.heap.size) 81 _ (by decide) (by decide) HP.out).cell 3
  have hlen : _ := HLL.out
  rw [HL.out] at hlen
  simp only [List.length_append] at hlen
  have hcv := cu_conv_rd y.body.A y.body.l.length y.body.c _ _ y.body.l rfl (HX.out.bf (from_below (HBK.out.1.trans HW.out.2.1))).rd8
  have HO := Lib.hid (otext_any ⟨y.body.l.toArray⟩ HB.out (by (try simp only [List.length_append]); omega) HW.out.1)
  go_wp2_with fail
  refine (HO.out).mono ?_
  rintro e w2 ⟨⟨_, rfl⟩, hou⟩
  have HW' := Lib.hid (Wr.after HW.out.2 hou)
  clear hou HO HW d0 c3 hlen
  have HW := HW'
  clear HW'
  go_wp2
  go_end0
  refine ⟨⟨_, rfl⟩, ?_⟩
  rw [HL.out]
  have := Wr.after HBK.out HW.out
  simpa only [List.append_assoc] using this

set_option maxHeartbeats 1000000 in
theorem weach_sd {lo hi O D : Nat} {l : List UInt8} {w : World} (x : Ls LSd) (hx : Lz kSd (From lo) w x) (hok : ∀ y ∈ x.l, okSd y.er) (hlen : x.l.length ≤ 1000) (hl : (l ++ wEach (fun y : LSd => nSd y.er) x.l).length ≤ 900000) (hD : Blk w D 95 #[.pointer (some ⟨O, 0, none⟩)]) (hxb : ∀ y ∈ x.l, y.body.l.length ≤ 1000 ∧ Lz kU8 (From lo) w y.body) (h : Ou lo hi w O l) :
    Calls Tryz.prog 127 #[.pointer (some ⟨O, 0, none⟩), x.v, .func (.func 128) #[] #[.pointer (some ⟨D, 0, none⟩)]] w fun e w' => (∃ r, e = .returned r) ∧ Wr lo w w' O (l ++ wEach (fun y : LSd => nSd y.er) x.l) := by
  obtain ⟨xs, A, c⟩ := x
  obtain ⟨n, hn⟩ : ∃ n, n = xs.length := ⟨_, rfl⟩
  have hlen : n ≤ 1000 := by rw [hn]; exact hlen
  have hl0 : l.length ≤ 900000 := by rw [List.length_append] at hl; omega
  have HO := Lib.hid (oint_any (n : Nat) (by omega) (by omega) (by omega) h)
  obtain ⟨l1, hl1⟩ : ∃ l1, l1 = l ++ Pk.nInt (n : Nat) := ⟨_, rfl⟩
  have hlt : ∀ (k : Nat) (y : LSd), xs[k]? = some y → (l1 ++ (xs.take k).flatMap ((fun y : LSd => nSd y.er))).length + ((fun y : LSd => nSd y.er) y).length ≤ 900000 := by
    intro k y hy
    have h1 := flat_item ((fun y : LSd => nSd y.er)) xs k y hy
    have h2 : (l ++ wEach ((fun y : LSd => nSd y.er)) xs).length ≤ 900000 := hl
    unfold wEach at h2
    rw [← hn] at h2
    rw [hl1]
    simp only [List.length_append] at h2 ⊢
    omega
  have hfin : l ++ wEach ((fun y : LSd => nSd y.er)) xs = l1 ++ (xs.take n).flatMap ((fun y : LSd => nSd y.er)) := by
    rw [hl1, hn, List.take_length, List.append_assoc]
    rfl
  show Calls _ _ #[_, .slice A xs.length c, _] w fun e w' => (∃ r, e = .returned r) ∧ Wr lo w w' O (l ++ wEach ((fun y : LSd => nSd y.er)) xs)
  rw [hfin, ← hn]
  rw [← hl1] at HO
  have HX := Lib.hid hx
  have HOK := Lib.hid hok
  have HLT := Lib.hid hlt
  have HN := Lib.hid hn
  have HD := Lib.hid hD
  have HXB := Lib.hid hxb
  clear hx hok hl hl0 h hlt hfin hl1 hn hD hxb
  go_enter Tryz.func127, Tryz.ntmps127
  go_wp2_with fail
  refine (HO.out).mono ?_
  rintro e w1 ⟨⟨_, rfl⟩, hou1⟩
  have HW1 := Lib.hid (show Wr lo w w1 O l1 from hou1)
  clear hou1 HO
  go_wp2
  go_loopw [7, 14] (fun _ i wr => ∃ k : Nat, k ≤ n ∧ i = .int .i64 (k : Int) ∧ Wr lo w wr O (l1 ++ (xs.take k).flatMap ((fun y : LSd => nSd y.er)))) (fun _ i _ => n - (intOf i).toNat)
  case atStart => exact ⟨0, Nat.zero_le _, rfl, by rw [List.take_zero]; simpa using HW1.out⟩
  case round =>
    obtain ⟨k, hk, rfl, hw⟩ := hrel
    by_cases hc : k < n
    · obtain ⟨y, hy⟩ : ∃ y, xs[k]? = some y := ⟨_, List.getElem?_eq_getElem (by have := HN.out; omega)⟩
      have hyo := HOK.out y (List.mem_of_getElem? hy)
      obtain ⟨b, off, rfl, _, _, r0, r1, r2, r3⟩ := (HX.out.bf (from_below hw.2.1)).sd hy
      have hlk := HLT.out k y hy
      have hit := hw.item (.cells #[.int .i64 y.nm.a, .int .i64 y.nm.b, .int .u64 (y.nm.c : Int), .slice y.body.A y.body.l.length y.body.c] 81)
      have HC := Lib.hid (clo_sd y hyo (HXB.out y (List.mem_of_getElem? hy)).1 ((HXB.out y (List.mem_of_getElem? hy)).2.bf (from_below hit.2.1)) (by rw [List.length_append]; omega) (hit.2.2 D 95 _ (by decide) (by decide) HD.out) hit.1)
      have HB := Lib.hid hit.2
      have HS := Lib.hid (flat_take ((fun y : LSd => nSd y.er)) xs k y hy)
      clear hyo hlk hw hit HW1
      go_wp2_with (go_at_call 128; refine (HC.out).mono ?_; rintro e w2 ⟨⟨_, rfl⟩, hou2⟩; have HW2 := Lib.hid (Wr.after HB.out hou2); clear hou2 HC)
      clear hy
      go_roundw
      case rel =>
        refine ⟨k + 1, hc, by go_num, ?_⟩
        rw [HS.out, ← List.append_assoc]
        exact HW2.out
      case measure => simp [intOf]; omega
    · have hkn : k = n := by omega
      subst hkn
      have HW := Lib.hid hw
      clear hw
      go_wp2
      go_end0
      exact ⟨⟨_, rfl⟩, HW.out⟩

end Ot
end Go.Proofs.YtkicjjcangkneaaGreatDoor
