/-
  Lists written: how many, and each one; records written by closures. For up to 900000 bytes in all.
-/
import Derived.Test.YtkicjjcangkneaaGreatDoorOtc
namespace Go.Proofs.YtkicjjcangkneaaGreatDoor
open Go.RowKit
attribute [local go_sem ↓] Go.wp_at_zero Go.wp_at_succ
set_option maxRecDepth 100000
namespace Ot
/-- From block lo on. -/
def From (lo k : Nat) : Prop := lo ≤ k
theorem from_below {lo : Nat} {w w' : World} (h : Below lo w w') : Bf (From lo) w w' := Bf.belowN h fun _ _ hn => hn
theorem flat_take {α : Type} (f : α → List UInt8) (l : List α) (k : Nat) (x : α) (h : l[k]? = some x) : (l.take (k + 1)).flatMap f = (l.take k).flatMap f ++ f x := by
  obtain ⟨hk, e⟩ := List.getElem?_eq_some_iff.1 h
  rw [List.take_succ_eq_append_getElem hk, List.flatMap_append, e]
  simp
theorem flat_len {α : Type} (f : α → List UInt8) (l : List α) (k : Nat) : ((l.take k).flatMap f).length ≤ (l.flatMap f).length := by
  have : l.flatMap f = (l.take k).flatMap f ++ (l.drop k).flatMap f := by rw [← List.flatMap_append, List.take_append_drop]
  rw [this, List.length_append]
  omega
theorem flat_item {α : Type} (f : α → List UInt8) (l : List α) (k : Nat) (x : α) (h : l[k]? = some x) : ((l.take k).flatMap f).length + (f x).length ≤ (l.flatMap f).length := by
  rw [← List.length_append, ← flat_take f l k x h]
  exact flat_len f l (k + 1)
/-- An Out behind a call that wrote X. -/
def Wr (lo : Nat) (w w' : World) (O : Nat) (l : List UInt8) : Prop := Ou lo w'.heap.size w' O l ∧ Below lo w w' ∧ Keeps w w'
theorem Wr.item {lo O : Nat} {w wr : World} {l : List UInt8} (h : Wr lo w wr O l) (o : Obj) : Ou lo wr.heap.size (wr.alloc o) O l ∧ Below lo w (wr.alloc o) ∧ Keeps w (wr.alloc o) := by
  obtain ⟨h1, h2, h3⟩ := h
  have hlt := h1.lt
  have ha : Below wr.heap.size wr (wr.alloc o) := (Below.refl _ wr).alloc (Nat.le_refl _) _
  exact ⟨h1.below ha (Nat.le_refl _), h2.trans (ha.mono (by omega)), h3.trans fun B t cs _ _ hB => blk_alloc hB _⟩
theorem Wr.after {lo O : Nat} {w w1 w2 : World} {l' : List UInt8} (h : Below lo w w1 ∧ Keeps w w1) (k : Wr lo w1 w2 O l') : Wr lo w w2 O l' := ⟨k.1, h.1.trans k.2.1, h.2.trans k.2.2⟩
theorem ou_top {lo hi O : Nat} {w : World} {l : List UInt8} (h : Ou lo hi w O l) : Ou lo w.heap.size w O l := by
  obtain ⟨A, c, h1, h2, h3, h4, h5, h6⟩ := h
  exact ⟨A, c, h1, h2, h3, by omega, fun g hg => Nat.lt_of_lt_of_le (h5 g hg) h6, Nat.le_refl _⟩
theorem Wr.new {lo hi O : Nat} {w : World} {l : List UInt8} (h : Ou lo hi w O l) (o : Obj) : Wr lo (w.alloc o) (w.alloc o) O l ∧ Below lo w (w.alloc o) ∧ Keeps w (w.alloc o) := by
  obtain ⟨h1, h2, h3⟩ := Wr.item (show Wr lo w w O l from ⟨ou_top h, Below.refl _ _, Keeps.refl _⟩) o
  exact ⟨⟨ou_top h1, Below.refl _ _, Keeps.refl _⟩, h2, h3⟩

set_option maxHeartbeats 1000000 in
theorem weach_nm {lo hi O : Nat} {l : List UInt8} {w : World} (x : Ls Pk.Nm) (hx : Lz kNm (From lo) w x) (hok : ∀ y ∈ x.l, okNm y) (hlen : x.l.length ≤ 1000) (hl : (l ++ wEach Pk.nName x.l).length ≤ 900000) (h : Ou lo hi w O l) :
    Calls Tryz.prog 119 #[.pointer (some ⟨O, 0, none⟩), x.v, .func (.func 120) #[.pointer (some ⟨O, 0, none⟩)] #[]] w fun e w' => (∃ r, e = .returned r) ∧ Wr lo w w' O (l ++ wEach Pk.nName x.l) := by
  obtain ⟨xs, A, c⟩ := x
  obtain ⟨n, hn⟩ : ∃ n, n = xs.length := ⟨_, rfl⟩
  have hlen : n ≤ 1000 := by rw [hn]; exact hlen
  have hl0 : l.length ≤ 900000 := by rw [List.length_append] at hl; omega
  have HO := Lib.hid (oint_any (n : Nat) (by omega) (by omega) (by omega) h)
  obtain ⟨l1, hl1⟩ : ∃ l1, l1 = l ++ Pk.nInt (n : Nat) := ⟨_, rfl⟩
  have hlt : ∀ (k : Nat) (y : Pk.Nm), xs[k]? = some y → (l1 ++ (xs.take k).flatMap (Pk.nName)).length + (Pk.nName y).length ≤ 900000 := by
    intro k y hy
    have h1 := flat_item (Pk.nName) xs k y hy
    have h2 : (l ++ wEach (Pk.nName) xs).length ≤ 900000 := hl
    unfold wEach at h2
    rw [← hn] at h2
    rw [hl1]
    simp only [List.length_append] at h2 ⊢
    omega
  have hfin : l ++ wEach (Pk.nName) xs = l1 ++ (xs.take n).flatMap (Pk.nName) := by
    rw [hl1, hn, List.take_length, List.append_assoc]
    rfl
  show Calls _ _ #[_, .slice A xs.length c, _] w fun e w' => (∃ r, e = .returned r) ∧ Wr lo w w' O (l ++ wEach (Pk.nName) xs)
  rw [hfin, ← hn]
  rw [← hl1] at HO
  have HX := Lib.hid hx
  have HOK := Lib.hid hok
  have HLT := Lib.hid hlt
  have HN := Lib.hid hn
  clear hx hok hl hl0 h hlt hfin hl1 hn
  go_enter Tryz.func119, Tryz.ntmps119
  go_wp2_with fail
  refine (HO.out).mono ?_
  rintro e w1 ⟨⟨_, rfl⟩, hou1⟩
  have HW1 := Lib.hid (show Wr lo w w1 O l1 from hou1)
  clear hou1 HO
  go_wp2
  go_loopw [7, 14] (fun _ i wr => ∃ k : Nat, k ≤ n ∧ i = .int .i64 (k : Int) ∧ Wr lo w wr O (l1 ++ (xs.take k).flatMap (Pk.nName))) (fun _ i _ => n - (intOf i).toNat)
  case atStart => exact ⟨0, Nat.zero_le _, rfl, by rw [List.take_zero]; simpa using HW1.out⟩
  case round =>
    obtain ⟨k, hk, rfl, hw⟩ := hrel
    by_cases hc : k < n
    · obtain ⟨y, hy⟩ : ∃ y, xs[k]? = some y := ⟨_, List.getElem?_eq_getElem (by have := HN.out; omega)⟩
      have hyo := HOK.out y (List.mem_of_getElem? hy)
      obtain ⟨b, off, rfl, _, _, r0, r1, r2⟩ := (HX.out.bf (from_below hw.2.1)).nm hy
      have hlk := HLT.out k y hy
      have hit := hw.item (.cells #[.int .i64 y.a, .int .i64 y.b, .int .u64 (y.c : Int)] 27)
      have HC := Lib.hid (oname_any y hyo.1.1 hyo.1.2 hyo.2.1.1 hyo.2.1.2 hyo.2.2 (by omega) hit.1)
      have HB := Lib.hid hit.2
      have HS := Lib.hid (flat_take (Pk.nName) xs k y hy)
      clear hyo hlk hw hit HW1
      unfold nmv at HC
      go_wp2_with (go_at_call 120; refine (HC.out).mono ?_; rintro e w2 ⟨⟨_, rfl⟩, hou2⟩; have HW2 := Lib.hid (Wr.after HB.out hou2); clear hou2 HC)
      clear hy
      go_roundw
      case rel =>
        refine ⟨k + 1, hc, by go_num, ?_⟩
        rw [HS.out, ← List.append_assoc]
        exact HW2.out
      case measure => simp [intOf]; omega
    · have hkn : k = n := by omega
      subst hkn
      have HW := Lib.hid hw
      clear hw
      go_wp2
      go_end0
      exact ⟨⟨_, rfl⟩, HW.out⟩

set_option maxHeartbeats 1000000 in
theorem weach_u64 {lo hi O : Nat} {l : List UInt8} {w : World} (x : Ls Nat) (hx : Lz kU64 (From lo) w x) (hok : ∀ y ∈ x.l, u64 y) (hlen : x.l.length ≤ 1000) (hl : (l ++ wEach Pk.num x.l).length ≤ 900000) (h : Ou lo hi w O l) :
    Calls Tryz.prog 125 #[.pointer (some ⟨O, 0, none⟩), x.v, .func (.func 54) #[.pointer (some ⟨O, 0, none⟩)] #[]] w fun e w' => (∃ r, e = .returned r) ∧ Wr lo w w' O (l ++ wEach Pk.num x.l) := by
  obtain ⟨xs, A, c⟩ := x
  obtain ⟨n, hn⟩ : ∃ n, n = xs.length := ⟨_, rfl⟩
  have hlen : n ≤ 1000 := by rw [hn]; exact hlen
  have hl0 : l.length ≤ 900000 := by rw [List.length_append] at hl; omega
  have HO := Lib.hid (oint_any (n : Nat) (by omega) (by omega) (by omega) h)
  obtain ⟨l1, hl1⟩ : ∃ l1, l1 = l ++ Pk.nInt (n : Nat) := ⟨_, rfl⟩
  have hlt : ∀ (k : Nat) (y : Nat), xs[k]? = some y → (l1 ++ (xs.take k).flatMap (Pk.num)).length + (Pk.num y).length ≤ 900000 := by
    intro k y hy
    have h1 := flat_item (Pk.num) xs k y hy
    have h2 : (l ++ wEach (Pk.num) xs).length ≤ 900000 := hl
    unfold wEach at h2
    rw [← hn] at h2
    rw [hl1]
    simp only [List.length_append] at h2 ⊢
    omega
  have hfin : l ++ wEach (Pk.num) xs = l1 ++ (xs.take n).flatMap (Pk.num) := by
    rw [hl1, hn, List.take_length, List.append_assoc]
    rfl
  show Calls _ _ #[_, .slice A xs.length c, _] w fun e w' => (∃ r, e = .returned r) ∧ Wr lo w w' O (l ++ wEach (Pk.num) xs)
  rw [hfin, ← hn]
  rw [← hl1] at HO
  have HX := Lib.hid hx
  have HOK := Lib.hid hok
  have HLT := Lib.hid hlt
  have HN := Lib.hid hn
  clear hx hok hl hl0 h hlt hfin hl1 hn
  go_enter Tryz.func125, Tryz.ntmps125
  go_wp2_with fail
  refine (HO.out).mono ?_
  rintro e w1 ⟨⟨_, rfl⟩, hou1⟩
  have HW1 := Lib.hid (show Wr lo w w1 O l1 from hou1)
  clear hou1 HO
  go_wp2
  go_loopw [7, 14] (fun _ i wr => ∃ k : Nat, k ≤ n ∧ i = .int .i64 (k : Int) ∧ Wr lo w wr O (l1 ++ (xs.take k).flatMap (Pk.num))) (fun _ i _ => n - (intOf i).toNat)
  case atStart => exact ⟨0, Nat.zero_le _, rfl, by rw [List.take_zero]; simpa using HW1.out⟩
  case round =>
    obtain ⟨k, hk, rfl, hw⟩ := hrel
    by_cases hc : k < n
    · obtain ⟨y, hy⟩ : ∃ y, xs[k]? = some y := ⟨_, List.getElem?_eq_getElem (by have := HN.out; omega)⟩
      have hyo := HOK.out y (List.mem_of_getElem? hy)
      obtain ⟨b, off, rfl, _, _, r0⟩ := (HX.out.bf (from_below hw.2.1)).u64 hy
      have hlk := HLT.out k y hy
      have hit := hw
      have HC := Lib.hid (onum_any y hyo (by omega) hit.1)
      have HB := Lib.hid hit.2
      have HS := Lib.hid (flat_take (Pk.num) xs k y hy)
      clear hyo hlk hw hit HW1
      go_wp2_with (go_at_call 54; refine (HC.out).mono ?_; rintro e w2 ⟨⟨_, rfl⟩, hou2⟩; have HW2 := Lib.hid (Wr.after HB.out hou2); clear hou2 HC)
      clear hy
      go_roundw
      case rel =>
        refine ⟨k + 1, hc, by go_num, ?_⟩
        rw [HS.out, ← List.append_assoc]
        exact HW2.out
      case measure => simp [intOf]; omega
    · have hkn : k = n := by omega
      subst hkn
      have HW := Lib.hid hw
      clear hw
      go_wp2
      go_end0
      exact ⟨⟨_, rfl⟩, HW.out⟩

set_option maxHeartbeats 1000000 in
theorem weach_int {lo hi O : Nat} {l : List UInt8} {w : World} (x : Ls Int) (hx : Lz kInt (From lo) w x) (hok : ∀ y ∈ x.l, i64 y) (hlen : x.l.length ≤ 1000) (hl : (l ++ wEach Pk.nInt x.l).length ≤ 900000) (h : Ou lo hi w O l) :
    Calls Tryz.prog 126 #[.pointer (some ⟨O, 0, none⟩), x.v, .func (.func 118) #[.pointer (some ⟨O, 0, none⟩)] #[]] w fun e w' => (∃ r, e = .returned r) ∧ Wr lo w w' O (l ++ wEach Pk.nInt x.l) := by
  obtain ⟨xs, A, c⟩ := x
  obtain ⟨n, hn⟩ : ∃ n, n = xs.length := ⟨_, rfl⟩
  have hlen : n ≤ 1000 := by rw [hn]; exact hlen
  have hl0 : l.length ≤ 900000 := by rw [List.length_append] at hl; omega
  have HO := Lib.hid (oint_any (n : Nat) (by omega) (by omega) (by omega) h)
  obtain ⟨l1, hl1⟩ : ∃ l1, l1 = l ++ Pk.nInt (n : Nat) := ⟨_, rfl⟩
  have hlt : ∀ (k : Nat) (y : Int), xs[k]? = some y → (l1 ++ (xs.take k).flatMap (Pk.nInt)).length + (Pk.nInt y).length ≤ 900000 := by
    intro k y hy
    have h1 := flat_item (Pk.nInt) xs k y hy
    have h2 : (l ++ wEach (Pk.nInt) xs).length ≤ 900000 := hl
    unfold wEach at h2
    rw [← hn] at h2
    rw [hl1]
    simp only [List.length_append] at h2 ⊢
    omega
  have hfin : l ++ wEach (Pk.nInt) xs = l1 ++ (xs.take n).flatMap (Pk.nInt) := by
    rw [hl1, hn, List.take_length, List.append_assoc]
    rfl
  show Calls _ _ #[_, .slice A xs.length c, _] w fun e w' => (∃ r, e = .returned r) ∧ Wr lo w w' O (l ++ wEach (Pk.nInt) xs)
  rw [hfin, ← hn]
  rw [← hl1] at HO
  have HX := Lib.hid hx
  have HOK := Lib.hid hok
  have HLT := Lib.hid hlt
  have HN := Lib.hid hn
  clear hx hok hl hl0 h hlt hfin hl1 hn
  go_enter Tryz.func126, Tryz.ntmps126
  go_wp2_with fail
  refine (HO.out).mono ?_
  rintro e w1 ⟨⟨_, rfl⟩, hou1⟩
  have HW1 := Lib.hid (show Wr lo w w1 O l1 from hou1)
  clear hou1 HO
  go_wp2
  go_loopw [7, 14] (fun _ i wr => ∃ k : Nat, k ≤ n ∧ i = .int .i64 (k : Int) ∧ Wr lo w wr O (l1 ++ (xs.take k).flatMap (Pk.nInt))) (fun _ i _ => n - (intOf i).toNat)
  case atStart => exact ⟨0, Nat.zero_le _, rfl, by rw [List.take_zero]; simpa using HW1.out⟩
  case round =>
    obtain ⟨k, hk, rfl, hw⟩ := hrel
    by_cases hc : k < n
    · obtain ⟨y, hy⟩ : ∃ y, xs[k]? = some y := ⟨_, List.getElem?_eq_getElem (by have := HN.out; omega)⟩
      have hyo := HOK.out y (List.mem_of_getElem? hy)
      obtain ⟨b, off, rfl, _, _, r0⟩ := (HX.out.bf (from_below hw.2.1)).int hy
      have hlk := HLT.out k y hy
      have hit := hw
      have HC := Lib.hid (oint_any y hyo.1 hyo.2 (by omega) hit.1)
      have HB := Lib.hid hit.2
      have HS := Lib.hid (flat_take (Pk.nInt) xs k y hy)
      clear hyo hlk hw hit HW1
      go_wp2_with (go_at_call 118; refine (HC.out).mono ?_; rintro e w2 ⟨⟨_, rfl⟩, hou2⟩; have HW2 := Lib.hid (Wr.after HB.out hou2); clear hou2 HC)
      clear hy
      go_roundw
      case rel =>
        refine ⟨k + 1, hc, by go_num, ?_⟩
        rw [HS.out, ← List.append_assoc]
        exact HW2.out
      case measure => simp [intOf]; omega
    · have hkn : k = n := by omega
      subst hkn
      have HW := Lib.hid hw
      clear hw
      go_wp2
      go_end0
      exact ⟨⟨_, rfl⟩, HW.out⟩

set_option maxHeartbeats 1000000 in
theorem clo_bx {lo hi O D : Nat} {l : List UInt8} {w : World} (y : Bx) (hy : okBx y) (hl : (l ++ nBx y).length ≤ 900000) (hD : Blk w D 95 #[.pointer (some ⟨O, 0, none⟩)]) (h : Ou lo hi w O l) :
    Calls Tryz.prog 183 #[.agg #[.int .u64 (y.dst : Int), .int .u64 (y.eph : Int), .int .u64 (y.body : Int), .int .u64 (y.tag : Int)], .pointer (some ⟨D, 0, none⟩)] w fun e w' => (∃ r, e = .returned r) ∧ Wr lo w w' O (l ++ nBx y) := by
  obtain ⟨hw, hbk⟩ := Wr.new h (.cells #[.int .u64 (y.dst : Int), .int .u64 (y.eph : Int), .int .u64 (y.body : Int), .int .u64 (y.tag : Int)] 68)
  have hP := blk_new w 68 #[.int .u64 (y.dst : Int), .int .u64 (y.eph : Int), .int .u64 (y.body : Int), .int .u64 (y.tag : Int)]
  have hDa := blk_alloc hD (.cells #[.int .u64 (y.dst : Int), .int .u64 (y.eph : Int), .int .u64 (y.body : Int), .int .u64 (y.tag : Int)] 68)
  have hlow := h.lt
  have hlow : lo ≤ w.heap.size := by omega
  obtain ⟨L, hL⟩ : ∃ L, L = l ++ nBx y := ⟨_, rfl⟩
  rw [← hL] at hl ⊢
  unfold nBx at hL
  have HW := Lib.hid hw
  have HBK := Lib.hid hbk
  have HP := Lib.hid hP
  have HD := Lib.hid hDa
  have HL := Lib.hid hL
  have HLL := Lib.hid hl
  have HY := Lib.hid hy
  clear hw hbk hP hDa hl hL hy hD h hlow
  go_enter Tryz.func183, Tryz.ntmps183
  have d0 := (HW.out.2.2 (D) 95 _ (by decide) (by decide) HD.out).cell 0
  have c0 := (HW.out.2.2 (w.heap.size) 68 _ (by decide) (by decide) HP.out).cell 0
  have hlen : _ := HLL.out
  rw [HL.out] at hlen
  simp only [List.length_append] at hlen
  have HO := Lib.hid (onum_any y.dst HY.out.1 (by (try simp only [List.length_append]); omega) HW.out.1)
  go_wp2_with fail
  refine (HO.out).mono ?_
  rintro e w1 ⟨⟨_, rfl⟩, hou⟩
  have HW' := Lib.hid (Wr.after HW.out.2 hou)
  clear hou HO HW d0 c0 hlen
  have HW := HW'
  clear HW'
  have d0 := (HW.out.2.2 (D) 95 _ (by decide) (by decide) HD.out).cell 0
  have c1 := (HW.out.2.2 (w.heap.size) 68 _ (by decide) (by decide) HP.out).cell 1
  have hlen : _ := HLL.out
  rw [HL.out] at hlen
  simp only [List.length_append] at hlen
  have HO := Lib.hid (onum_any y.eph HY.out.2.1 (by (try simp only [List.length_append]); omega) HW.out.1)
  go_wp2_with fail
  refine (HO.out).mono ?_
  rintro e w2 ⟨⟨_, rfl⟩, hou⟩
  have HW' := Lib.hid (Wr.after HW.out.2 hou)
  clear hou HO HW d0 c1 hlen
  have HW := HW'
  clear HW'
  have d0 := (HW.out.2.2 (D) 95 _ (by decide) (by decide) HD.out).cell 0
  have c2 := (HW.out.2.2 (w.heap.size) 68 _ (by decide) (by decide) HP.out).cell 2
  have hlen : _ := HLL.out
  rw [HL.out] at hlen
  simp only [List.length_append] at hlen
  have HO := Lib.hid (onum_any y.body HY.out.2.2.1 (by (try simp only [List.length_append]); omega) HW.out.1)
  go_wp2_with fail
  refine (HO.out).mono ?_
  rintro e w3 ⟨⟨_, rfl⟩, hou⟩
  have HW' := Lib.hid (Wr.after HW.out.2 hou)
  clear hou HO HW d0 c2 hlen
  have HW := HW'
  clear HW'
  have d0 := (HW.out.2.2 (D) 95 _ (by decide) (by decide) HD.out).cell 0
  have c3 := (HW.out.2.2 (w.heap.size) 68 _ (by decide) (by decide) HP.out).cell 3
  have hlen : _ := HLL.out
  rw [HL.out] at hlen
  simp only [List.length_append] at hlen
  have HO := Lib.hid (onum_any y.tag HY.out.2.2.2 (by (try simp only [List.length_append]); omega) HW.out.1)
  go_wp2_with fail
  refine (HO.out).mono ?_
  rintro e w4 ⟨⟨_, rfl⟩, hou⟩
  have HW' := Lib.hid (Wr.after HW.out.2 hou)
  clear hou HO HW d0 c3 hlen
  have HW := HW'
  clear HW'
  go_wp2
  go_end0
  refine ⟨⟨_, rfl⟩, ?_⟩
  rw [HL.out]
  have := Wr.after HBK.out HW.out
  simpa only [List.append_assoc] using this

set_option maxHeartbeats 1000000 in
theorem weach_bx {lo hi O D : Nat} {l : List UInt8} {w : World} (x : Ls Bx) (hx : Lz kBx (From lo) w x) (hok : ∀ y ∈ x.l, okBx y) (hlen : x.l.length ≤ 1000) (hl : (l ++ wEach nBx x.l).length ≤ 900000) (hD : Blk w D 95 #[.pointer (some ⟨O, 0, none⟩)]) (h : Ou lo hi w O l) :
    Calls Tryz.prog 182 #[.pointer (some ⟨O, 0, none⟩), x.v, .func (.func 183) #[] #[.pointer (some ⟨D, 0, none⟩)]] w fun e w' => (∃ r, e = .returned r) ∧ Wr lo w w' O (l ++ wEach nBx x.l) := by
  obtain ⟨xs, A, c⟩ := x
  obtain ⟨n, hn⟩ : ∃ n, n = xs.length := ⟨_, rfl⟩
  have hlen : n ≤ 1000 := by rw [hn]; exact hlen
  have hl0 : l.length ≤ 900000 := by rw [List.length_append] at hl; omega
  have HO := Lib.hid (oint_any (n : Nat) (by omega) (by omega) (by omega) h)
  obtain ⟨l1, hl1⟩ : ∃ l1, l1 = l ++ Pk.nInt (n : Nat) := ⟨_, rfl⟩
  have hlt : ∀ (k : Nat) (y : Bx), xs[k]? = some y → (l1 ++ (xs.take k).flatMap (nBx)).length + (nBx y).length ≤ 900000 := by
    intro k y hy
    have h1 := flat_item (nBx) xs k y hy
    have h2 : (l ++ wEach (nBx) xs).length ≤ 900000 := hl
    unfold wEach at h2
    rw [← hn] at h2
    rw [hl1]
    simp only [List.length_append] at h2 ⊢
    omega
  have hfin : l ++ wEach (nBx) xs = l1 ++ (xs.take n).flatMap (nBx) := by
    rw [hl1, hn, List.take_length, List.append_assoc]
    rfl
  show Calls _ _ #[_, .slice A xs.length c, _] w fun e w' => (∃ r, e = .returned r) ∧ Wr lo w w' O (l ++ wEach (nBx) xs)
  rw [hfin, ← hn]
  rw [← hl1] at HO
  have HX := Lib.hid hx
  have HOK := Lib.hid hok
  have HLT := Lib.hid hlt
  have HN := Lib.hid hn
  have HD := Lib.hid hD
  clear hx hok hl hl0 h hlt hfin hl1 hn hD
  go_enter Tryz.func182, Tryz.ntmps182
  go_wp2_with fail
  refine (HO.out).mono ?_
  rintro e w1 ⟨⟨_, rfl⟩, hou1⟩
  have HW1 := Lib.hid (show Wr lo w w1 O l1 from hou1)
  clear hou1 HO
  go_wp2
  go_loopw [7, 14] (fun _ i wr => ∃ k : Nat, k ≤ n ∧ i = .int .i64 (k : Int) ∧ Wr lo w wr O (l1 ++ (xs.take k).flatMap (nBx))) (fun _ i _ => n - (intOf i).toNat)
  case atStart => exact ⟨0, Nat.zero_le _, rfl, by rw [List.take_zero]; simpa using HW1.out⟩
  case round =>
    obtain ⟨k, hk, rfl, hw⟩ := hrel
    by_cases hc : k < n
    · obtain ⟨y, hy⟩ : ∃ y, xs[k]? = some y := ⟨_, List.getElem?_eq_getElem (by have := HN.out; omega)⟩
      have hyo := HOK.out y (List.mem_of_getElem? hy)
      obtain ⟨b, off, rfl, _, _, r0, r1, r2, r3⟩ := (HX.out.bf (from_below hw.2.1)).bx hy
      have hlk := HLT.out k y hy
      have hit := hw.item (.cells #[.int .u64 (y.dst : Int), .int .u64 (y.eph : Int), .int .u64 (y.body : Int), .int .u64 (y.tag : Int)] 68)
      have HC := Lib.hid (clo_bx y hyo (by rw [List.length_append]; omega) (hit.2.2 D 95 _ (by decide) (by decide) HD.out) hit.1)
      have HB := Lib.hid hit.2
      have HS := Lib.hid (flat_take (nBx) xs k y hy)
      clear hyo hlk hw hit HW1
      go_wp2_with (go_at_call 183; refine (HC.out).mono ?_; rintro e w2 ⟨⟨_, rfl⟩, hou2⟩; have HW2 := Lib.hid (Wr.after HB.out hou2); clear hou2 HC)
      clear hy
      go_roundw
      case rel =>
        refine ⟨k + 1, hc, by go_num, ?_⟩
        rw [HS.out, ← List.append_assoc]
        exact HW2.out
      case measure => simp [intOf]; omega
    · have hkn : k = n := by omega
      subst hkn
      have HW := Lib.hid hw
      clear hw
      go_wp2
      go_end0
      exact ⟨⟨_, rfl⟩, HW.out⟩

end Ot
end Go.Proofs.YtkicjjcangkneaaGreatDoor
