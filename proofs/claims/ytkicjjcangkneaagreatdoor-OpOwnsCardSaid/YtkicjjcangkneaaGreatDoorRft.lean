/-
  Joined texts: Oub Oud Ouc Oue.
-/
import Derived.Test.YtkicjjcangkneaaGreatDoorOtg
import Derived.Test.YtkicjjcangkneaaGreatDoorRfi
import Derived.Deep.RegionHeld
import Derived.Test.YtkicjjcangkneaaGreatDoorOtv
import Derived.Deep.DeepCutAuto
import Derived.Deep.CutBlock
import Derived.Test.YtkicjjcangkneaaGreatDoorRfw
import Derived.Test.YtkicjjcangkneaaGreatDoorInn
import Derived.Test.YtkicjjcangkneaaGreatDoorOtm

/-
  The reference's bytes: of numbers, of boxes. For what fits memory.
-/
namespace Go.Proofs.YtkicjjcangkneaaGreatDoor
open Go.RowKit
attribute [local go_sem ↓] Go.wp_at_zero Go.wp_at_succ
set_option maxRecDepth 100000
namespace Ot
theorem Bys.byt {w w' : World} {e : Ending} {l : List UInt8} (h : Bys w w' e l) : Byt w w' e l := by
  obtain ⟨A, c, h1, h2, h3⟩ := h
  exact ⟨⟨l, A, c⟩, h1, rfl, (Gr.of8 h2).2, h3⟩
theorem flat_snoc {α : Type} (f : α → List UInt8) {l : List α} {k : Nat} {y : α} (h : l[k]? = some y) : (l.take (k + 1)).flatMap f = (l.take k).flatMap f ++ f y := by
  have hl := (List.getElem?_eq_some_iff.1 h).1
  have hy := (List.getElem?_eq_some_iff.1 h).2
  rw [List.take_succ_eq_append_getElem hl, List.flatMap_append, hy]
  simp
theorem flat_whole {α : Type} (f : α → List UInt8) {l : List α} {k : Nat} (h : l.length ≤ k) : (l.take k).flatMap f = l.flatMap f := by rw [List.take_of_length_le h]

set_option maxHeartbeats 2000000 in
theorem rints_any {w : World} (x : Ls Int) (hx : Lz kInt No w x) (hn : x.l.length ≤ 1000) (hok : ∀ y ∈ x.l, i64 y) :
    Calls Tryz.prog 74 #[x.v] w fun e w' => Byt w w' e (x.l.flatMap Pk.nInt) := by
  obtain ⟨l, A, c⟩ := x
  obtain ⟨n, hnl⟩ : ∃ n, n = l.length := ⟨_, rfl⟩
  have hn : n ≤ 1000 := by rw [hnl]; exact hn
  show Calls _ _ #[.slice A l.length c] w _
  rw [← hnl]
  have HX := Lib.hid hx
  have HOK := Lib.hid hok
  have HN := Lib.hid hnl
  clear hx hok hnl
  go_enter Tryz.func74, Tryz.ntmps74
  go_wp2
  go_loopw [3, 4] (fun ov iv wr => ∃ (k : Nat) (z : Ls UInt8), ov = z.v ∧ iv = .int .i64 (k : Int) ∧ k ≤ n ∧ z.l = (l.take k).flatMap Pk.nInt ∧ z.l.length ≤ 10 * k ∧ Gr kU8 w.heap.size wr z ∧ Below w.heap.size w wr) (fun _ iv _ => n - (intOf iv).toNat)
  case atStart => exact ⟨0, Ls.nil, rfl, rfl, Nat.zero_le _, rfl, Nat.le_refl _, Gr.nil _ _, Below.refl _ _⟩
  case round =>
    obtain ⟨k, z, rfl, rfl, hk, hzl, hz10, hgr, hb⟩ := hrel
    obtain ⟨zv, hzv⟩ : ∃ zv, zv = z.v := ⟨_, rfl⟩
    rw [← hzv]
    have HZV := Lib.hid hzv
    have HZL := Lib.hid hzl
    have HZ10 := Lib.hid hz10
    have HGR := Lib.hid hgr
    have HB := Lib.hid hb
    by_cases hlt : k < n
    · obtain ⟨y, hy⟩ : ∃ y, l[k]? = some y := ⟨_, List.getElem?_eq_getElem (by have := HN.out; omega)⟩
      have HYO := Lib.hid (HOK.out y (List.mem_of_getElem? hy))
      obtain ⟨b, off, rfl, hbb, _, c0⟩ := (HX.out.bf (F := No) (Bf.below hb)).int hy
      have q0_ : (0 : Int) ≤ (k : Int) := by omega
      have q1_ : (k : Int) < (n : Int) := by omega
      have HW := Lib.hid (rwint_any y wr HYO.out.1 HYO.out.2)
      have HTK := Lib.hid (flat_snoc Pk.nInt hy)
      have HE10 := Lib.hid (show (Pk.nInt y).length ≤ 10 from Pk.nInt_len y HYO.out.1 HYO.out.2)
      clear hzv hzl hz10 hgr hb hy hbb
      go_wp2_with fail
      refine (HW.out).mono ?_
      rintro e w1 hbys
      obtain ⟨y1, rfl, hyl, hgy, hb1⟩ := Bys.byt hbys
      have HGZ := Lib.hid (HGR.out.below hb1)
      have HY := Lib.hid (hgy.lz (F := No) fun _ h => h.elim)
      have HYL := Lib.hid hyl
      have HB1 := Lib.hid (HB.out.trans (hb1.mono HB.out.size))
      have HLN := Lib.hid (show z.l.length + y1.l.length ≤ 1000000000 by rw [hyl]; have := HZ10.out; have := HE10.out; omega)
      clear hyl hgy hb1 hbys HW c0 HGR
      go_wp2_with (at_builtin; refine wpList_push_ls ki_u8 rfl _ _ rfl w.heap.size z y1 HGZ.out HZV.out HY.out rfl HLN.out HB1.out.size ?_; intro z2 w2 hz2 hg2 hb2 _; have HZ2 := Lib.hid hz2; have HG2 := Lib.hid hg2; have HB2 := Lib.hid (HB1.out.trans hb2); clear hz2 hg2 hb2 HGZ HLN)
      go_roundw
      case rel => exact ⟨k + 1, z2, rfl, by go_num, hlt, by rw [HZ2.out, HZL.out, HYL.out, HTK.out], by rw [HZ2.out, List.length_append, HYL.out]; have := HZ10.out; have := HE10.out; omega, HG2.out, HB2.out⟩
      case measure => simp [intOf]; omega
    · have q1_ : ¬ (k : Int) < (n : Int) := by omega
      clear hzv hzl hz10 hgr hb
      go_wp2
      go_ret
      exact ⟨z, congrArg Ending.returned HZV.out, by rw [HZL.out, flat_whole _ (by have := HN.out; omega)], HGR.out, HB.out⟩

set_option maxHeartbeats 2000000 in
theorem rnums_any {w : World} (x : Ls Nat) (hx : Lz kU64 No w x) (hn : x.l.length ≤ 1000) (hok : ∀ y ∈ x.l, u64 y) :
    Calls Tryz.prog 56 #[x.v] w fun e w' => Byt w w' e (x.l.flatMap Pk.num) := by
  obtain ⟨l, A, c⟩ := x
  obtain ⟨n, hnl⟩ : ∃ n, n = l.length := ⟨_, rfl⟩
  have hn : n ≤ 1000 := by rw [hnl]; exact hn
  show Calls _ _ #[.slice A l.length c] w _
  rw [← hnl]
  have HX := Lib.hid hx
  have HOK := Lib.hid hok
  have HN := Lib.hid hnl
  clear hx hok hnl
  go_enter Tryz.func56, Tryz.ntmps56
  go_wp2
  go_loopw [3, 4] (fun ov iv wr => ∃ (k : Nat) (z : Ls UInt8), ov = z.v ∧ iv = .int .i64 (k : Int) ∧ k ≤ n ∧ z.l = (l.take k).flatMap Pk.num ∧ z.l.length ≤ 10 * k ∧ Gr kU8 w.heap.size wr z ∧ Below w.heap.size w wr) (fun _ iv _ => n - (intOf iv).toNat)
  case atStart => exact ⟨0, Ls.nil, rfl, rfl, Nat.zero_le _, rfl, Nat.le_refl _, Gr.nil _ _, Below.refl _ _⟩
  case round =>
    obtain ⟨k, z, rfl, rfl, hk, hzl, hz10, hgr, hb⟩ := hrel
    obtain ⟨zv, hzv⟩ : ∃ zv, zv = z.v := ⟨_, rfl⟩
    rw [← hzv]
    have HZV := Lib.hid hzv
    have HZL := Lib.hid hzl
    have HZ10 := Lib.hid hz10
    have HGR := Lib.hid hgr
    have HB := Lib.hid hb
    by_cases hlt : k < n
    · obtain ⟨y, hy⟩ : ∃ y, l[k]? = some y := ⟨_, List.getElem?_eq_getElem (by have := HN.out; omega)⟩
      have HYO := Lib.hid (HOK.out y (List.mem_of_getElem? hy))
      obtain ⟨b, off, rfl, hbb, _, c0⟩ := (HX.out.bf (F := No) (Bf.below hb)).u64 hy
      have q0_ : (0 : Int) ≤ (k : Int) := by omega
      have q1_ : (k : Int) < (n : Int) := by omega
      have HW := Lib.hid (rwnum_any y wr HYO.out)
      have HTK := Lib.hid (flat_snoc Pk.num hy)
      have HE10 := Lib.hid (show (Pk.num y).length ≤ 10 from Pk.num_len10 y HYO.out)
      clear hzv hzl hz10 hgr hb hy hbb
      go_wp2_with fail
      refine (HW.out).mono ?_
      rintro e w1 hbys
      obtain ⟨y1, rfl, hyl, hgy, hb1⟩ := Bys.byt hbys
      have HGZ := Lib.hid (HGR.out.below hb1)
      have HY := Lib.hid (hgy.lz (F := No) fun _ h => h.elim)
      have HYL := Lib.hid hyl
      have HB1 := Lib.hid (HB.out.trans (hb1.mono HB.out.size))
      have HLN := Lib.hid (show z.l.length + y1.l.length ≤ 1000000000 by rw [hyl]; have := HZ10.out; have := HE10.out; omega)
      clear hyl hgy hb1 hbys HW c0 HGR
      go_wp2_with (at_builtin; refine wpList_push_ls ki_u8 rfl _ _ rfl w.heap.size z y1 HGZ.out HZV.out HY.out rfl HLN.out HB1.out.size ?_; intro z2 w2 hz2 hg2 hb2 _; have HZ2 := Lib.hid hz2; have HG2 := Lib.hid hg2; have HB2 := Lib.hid (HB1.out.trans hb2); clear hz2 hg2 hb2 HGZ HLN)
      go_roundw
      case rel => exact ⟨k + 1, z2, rfl, by go_num, hlt, by rw [HZ2.out, HZL.out, HYL.out, HTK.out], by rw [HZ2.out, List.length_append, HYL.out]; have := HZ10.out; have := HE10.out; omega, HG2.out, HB2.out⟩
      case measure => simp [intOf]; omega
    · have q1_ : ¬ (k : Int) < (n : Int) := by omega
      clear hzv hzl hz10 hgr hb
      go_wp2
      go_ret
      exact ⟨z, congrArg Ending.returned HZV.out, by rw [HZL.out, flat_whole _ (by have := HN.out; omega)], HGR.out, HB.out⟩
end Ot
end Go.Proofs.YtkicjjcangkneaaGreatDoor

/-
  The reference's bytes of boxes. For at most a thousand of them.
-/
namespace Go.Proofs.YtkicjjcangkneaaGreatDoor
open Go.RowKit
attribute [local go_sem ↓] Go.wp_at_zero Go.wp_at_succ
set_option maxRecDepth 100000
namespace Ot
theorem lz_new {α : Type} {K : Kd α} (w : World) (l : List α) (cs : Array Value) (n : Nat) (h : cs.toList = K.cells l) (hn : n = l.length) : Lz K No (w.alloc (.cells cs K.ty)) ⟨l, some ⟨w.heap.size, 0, none⟩, n⟩ := by
  refine ⟨fun _ => ⟨w.heap.size, 0, rfl, by simp, fun h => h, fun i u hu => ?_⟩, Nat.le_of_eq hn.symm, fun h => nomatch h⟩
  have := cell_new w cs K.ty i u (by rw [h]; exact hu)
  rw [Addr.add_lit] at this
  exact this
/-- A box in memory. -/
def BxAt (w : World) (b o : Nat) (y : Bx) : Prop := w.cell? ⟨b, o, none⟩ = some (.int .u64 (y.dst : Int)) ∧ w.cell? ⟨b, o + 1, none⟩ = some (.int .u64 (y.eph : Int)) ∧ w.cell? ⟨b, o + 2, none⟩ = some (.int .u64 (y.body : Int)) ∧ w.cell? ⟨b, o + 3, none⟩ = some (.int .u64 (y.tag : Int))
theorem BxAt.bf {F : Nat → Prop} {w w' : World} {b o : Nat} {y : Bx} (h : BxAt w b o y) (hb : Bf F w w') (hlt : b < w.heap.size) (hf : ¬ F b) : BxAt w' b o y :=
  ⟨(hb.cell (p := ⟨b, o, none⟩) hlt hf).trans h.1, (hb.cell (p := ⟨b, o + 1, none⟩) hlt hf).trans h.2.1, (hb.cell (p := ⟨b, o + 2, none⟩) hlt hf).trans h.2.2.1, (hb.cell (p := ⟨b, o + 3, none⟩) hlt hf).trans h.2.2.2⟩

set_option maxHeartbeats 4000000 in
theorem rboxes_ref {w : World} (x : Ls Bx) (hx : Lz kBx No w x) (hn : x.l.length ≤ 1000) (hok : ∀ y ∈ x.l, okBx y) :
    Calls Tryz.prog 77 #[x.v] w fun e w' => Byt w w' e (wEach nBx x.l) := by
  obtain ⟨l, A, c⟩ := x
  obtain ⟨n, hnl⟩ : ∃ n, n = l.length := ⟨_, rfl⟩
  have hn : n ≤ 1000 := by rw [hnl]; exact hn
  have HE0 := Lib.hid (show wEach nBx (Ls.mk l A c).l = Pk.nInt (n : Nat) ++ l.flatMap nBx by rw [hnl]; rfl)
  show Calls _ _ #[.slice A l.length c] w _
  rw [← hnl]
  have HX := Lib.hid hx
  have HOK := Lib.hid hok
  have HN := Lib.hid hnl
  have HW := Lib.hid (rwint_any (n : Int) w (by omega) (by omega))
  have HL0 := Lib.hid (Pk.nInt_len (n : Int) (by omega) (by omega))
  clear hx hok hnl
  go_enter Tryz.func77, Tryz.ntmps77
  go_wp2_with fail
  refine (HW.out).mono ?_
  rintro e w0 hbys
  obtain ⟨z0, rfl, hz0, hg0, hb0⟩ := Bys.byt hbys
  have HZ0 := Lib.hid hz0
  have HG0 := Lib.hid hg0
  have HB0 := Lib.hid hb0
  clear hbys hz0 hg0 hb0 HW
  go_wp2
  go_loopw [3, 4] (fun ov iv wr => ∃ (k : Nat) (z : Ls UInt8), ov = z.v ∧ iv = .int .i64 (k : Int) ∧ k ≤ n ∧ z.l = Pk.nInt (n : Nat) ++ (l.take k).flatMap nBx ∧ z.l.length ≤ 10 + 40 * k ∧ Gr kU8 w.heap.size wr z ∧ Below w.heap.size w wr) (fun _ iv _ => n - (intOf iv).toNat)
  case atStart => exact ⟨0, z0, rfl, rfl, Nat.zero_le _, by rw [HZ0.out]; simp, by rw [HZ0.out]; exact HL0.out, HG0.out, HB0.out⟩
  case round =>
    obtain ⟨k, z, rfl, rfl, hk, hzl, hz40, hgr, hb⟩ := hrel
    obtain ⟨zv, hzv⟩ : ∃ zv, zv = z.v := ⟨_, rfl⟩
    rw [← hzv]
    have HZV := Lib.hid hzv
    have HZL := Lib.hid hzl
    have HZ40 := Lib.hid hz40
    have HGR := Lib.hid (show Gr kU8 w.heap.size wr.drew z from hgr.bf (F := No) (Bf.drew wr) fun _ h => h.elim)
    have HGR' := Lib.hid hgr
    have HB := Lib.hid (show Below w.heap.size w wr.drew from hb.trans (below_drewN wr 1 w.heap.size))
    have HB' := Lib.hid hb
    obtain ⟨wo, rfl⟩ : ∃ wo, wo = wr := ⟨_, rfl⟩
    by_cases hlt : k < n
    · obtain ⟨y, hy⟩ : ∃ y, l[k]? = some y := ⟨_, List.getElem?_eq_getElem (by have := HN.out; omega)⟩
      have HYO := Lib.hid (HOK.out y (List.mem_of_getElem? hy))
      obtain ⟨b, off, rfl, hbb, _, c0, c1, c2, c3⟩ := HX.out.bx hy
      have hlt2 : b < wo.drew.heap.size := Nat.lt_of_lt_of_le hbb HB.out.size
      have HA := Lib.hid (show BxAt wo.drew b (off + k * 4) y from BxAt.bf (w := w) ⟨c0, c1, c2, c3⟩ (F := fun k => w.heap.size ≤ k) (Bf.belowN HB.out fun _ _ h => h) hbb (by omega))
      have HBB := Lib.hid hbb
      have HL2 := Lib.hid hlt2
      have q0_ : (0 : Int) ≤ (k : Int) := by omega
      have q1_ : (k : Int) < (n : Int) := by omega
      have HTK := Lib.hid (flat_snoc nBx hy)
      have HE40 := Lib.hid (show (nBx y).length ≤ 40 from bx_len y HYO.out)
      have HNB := Lib.hid (show [y.dst, y.eph, y.body, y.tag].flatMap Pk.num = nBx y by simp [nBx])
      have HNU := Lib.hid (rnums_any (w := wo.drew.alloc (.cells #[.int .u64 (y.dst : Int), .int .u64 (y.eph : Int), .int .u64 (y.body : Int), .int .u64 (y.tag : Int)] 25)) ⟨[y.dst, y.eph, y.body, y.tag], some ⟨wo.drew.heap.size, 0, none⟩, 4⟩ (lz_new (K := kU64) wo.drew [y.dst, y.eph, y.body, y.tag] #[.int .u64 (y.dst : Int), .int .u64 (y.eph : Int), .int .u64 (y.body : Int), .int .u64 (y.tag : Int)] 4 rfl rfl) (by show 4 ≤ 1000; omega) (by intro v hv; obtain ⟨h1, h2, h3, h4⟩ := HYO.out; simp at hv; rcases hv with rfl | rfl | rfl | rfl <;> assumption))
      have HGA := Lib.hid (HGR.out.below ((Below.refl _ wo.drew).alloc (Nat.le_refl _) (.cells #[.int .u64 (y.dst : Int), .int .u64 (y.eph : Int), .int .u64 (y.body : Int), .int .u64 (y.tag : Int)] 25)))
      have HBA := Lib.hid (HB.out.alloc HB.out.size (.cells #[.int .u64 (y.dst : Int), .int .u64 (y.eph : Int), .int .u64 (y.body : Int), .int .u64 (y.tag : Int)] 25))
      have HAA := Lib.hid (HA.out.bf (F := No) (Bf.alloc wo.drew (.cells #[.int .u64 (y.dst : Int), .int .u64 (y.eph : Int), .int .u64 (y.body : Int), .int .u64 (y.tag : Int)] 25)) HL2.out fun h => h)
      clear hzv hzl hz40 hgr hb hy hbb c0 c1 c2 c3 hlt2
      go_wp2
      refine wp_region_held_drew (S := (fun w' : World => BxAt w' b (off + k * 4) y)) (by kernel_rfl) HA.out (fun hHeld => ?_)
      try simp only [Act.put, List.getElem_toArray, List.getElem_cons_succ, List.getElem_cons_zero, List.setIfInBounds_toArray, List.set_cons_zero, List.set_cons_succ]
      refine wpAnyH_take (i := 0) (v := ?_) rfl (by kernel_rfl) (by kernel_rfl) (by kernel_rfl) (fun _ _ _ h => h) (Or.inl ⟨by rfl, ?_⟩) (by assumption) ?_
      rotate_left
      · (intro w hSw; (try dsimp only at hSw); obtain ⟨t0, t1, t2, t3⟩ := hSw; go_simp; try (with_reducible rfl))
      try simp only [Act.put, List.getElem_toArray, List.getElem_cons_zero, List.setIfInBounds_toArray, List.set_cons_zero, List.set_cons_succ]
      refine wpAnyH_take (i := 1) (v := ?_) rfl (by kernel_rfl) (by kernel_rfl) (by kernel_rfl) (fun _ _ _ h => h) (Or.inl ⟨by rfl, ?_⟩) (by assumption) ?_
      rotate_left
      · (intro w hSw; (try dsimp only at hSw); obtain ⟨t0, t1, t2, t3⟩ := hSw; go_simp; try (with_reducible rfl))
      try simp only [Act.put, List.getElem_toArray, List.getElem_cons_succ, List.getElem_cons_zero, List.setIfInBounds_toArray, List.set_cons_zero, List.set_cons_succ]
      refine wpAnyH_take (i := 2) (v := ?_) rfl (by kernel_rfl) (by kernel_rfl) (by kernel_rfl) (fun _ _ _ h => h) (Or.inl ⟨by rfl, ?_⟩) (by assumption) ?_
      rotate_left
      · (intro w hSw; (try dsimp only at hSw); obtain ⟨t0, t1, t2, t3⟩ := hSw; go_simp; try (with_reducible rfl))
      try simp only [Act.put, List.getElem_toArray, List.getElem_cons_succ, List.getElem_cons_zero, List.setIfInBounds_toArray, List.set_cons_zero, List.set_cons_succ]
      refine wpAnyH_take (i := 3) (v := ?_) rfl (by kernel_rfl) (by kernel_rfl) (by kernel_rfl) (fun _ _ _ h => h) (Or.inl ⟨by rfl, ?_⟩) (by assumption) ?_
      rotate_left
      · (intro w hSw; (try dsimp only at hSw); obtain ⟨t0, t1, t2, t3⟩ := hSw; go_simp; try (with_reducible rfl))
      try simp only [Act.put, List.getElem_toArray, List.getElem_cons_succ, List.getElem_cons_zero, List.setIfInBounds_toArray, List.set_cons_zero, List.set_cons_succ]
      refine wpAnyH_take (i := 4) (v := ?_) rfl (by kernel_rfl) (by kernel_rfl) (by kernel_rfl) (fun _ _ _ h => h) (Or.inl ⟨by rfl, ?_⟩) (by assumption) ?_
      rotate_left
      · (intro w hSw; (try dsimp only at hSw); obtain ⟨t0, t1, t2, t3⟩ := hSw; go_simp; try (with_reducible rfl))
      try simp only [Act.put, List.getElem_toArray, List.getElem_cons_succ, List.getElem_cons_zero, List.setIfInBounds_toArray, List.set_cons_zero, List.set_cons_succ]
      refine wpAnyH_take (i := 5) (v := ?_) rfl (by kernel_rfl) (by kernel_rfl) (by kernel_rfl) (fun _ _ _ h => h) (Or.inl ⟨by rfl, ?_⟩) (by assumption) ?_
      rotate_left
      · (intro w hSw; (try dsimp only at hSw); obtain ⟨t0, t1, t2, t3⟩ := hSw; go_simp; try (with_reducible rfl))
      try simp only [Act.put, List.getElem_toArray, List.getElem_cons_succ, List.getElem_cons_zero, List.setIfInBounds_toArray, List.set_cons_zero, List.set_cons_succ]
      refine wpAnyH_take (i := 6) (v := ?_) rfl (by kernel_rfl) (by kernel_rfl) (by kernel_rfl) (fun _ _ _ h => h) (Or.inl ⟨by rfl, ?_⟩) (by assumption) ?_
      rotate_left
      · (intro w hSw; (try dsimp only at hSw); obtain ⟨t0, t1, t2, t3⟩ := hSw; go_simp; try (with_reducible rfl))
      try simp only [Act.put, List.getElem_toArray, List.getElem_cons_succ, List.getElem_cons_zero, List.setIfInBounds_toArray, List.set_cons_zero, List.set_cons_succ]
      refine wpAnyH_take (i := 7) (v := ?_) rfl (by kernel_rfl) (by kernel_rfl) (by kernel_rfl) (fun _ _ _ h => h) (Or.inl ⟨by rfl, ?_⟩) (by assumption) ?_
      rotate_left
      · (intro w hSw; (try dsimp only at hSw); obtain ⟨t0, t1, t2, t3⟩ := hSw; go_simp; try (with_reducible rfl))
      try simp only [Act.put, List.getElem_toArray, List.getElem_cons_succ, List.getElem_cons_zero, List.setIfInBounds_toArray, List.set_cons_zero, List.set_cons_succ]
      refine wpAnyH_take (i := 8) (v := ?_) rfl (by kernel_rfl) (by kernel_rfl) (by kernel_rfl) (fun _ _ _ h => h) (Or.inl ⟨by rfl, ?_⟩) (by assumption) ?_
      rotate_left
      · (intro w hSw; (try dsimp only at hSw); obtain ⟨t0, t1, t2, t3⟩ := hSw; go_simp; try (with_reducible rfl))
      try simp only [Act.put, List.getElem_toArray, List.getElem_cons_succ, List.getElem_cons_zero, List.setIfInBounds_toArray, List.set_cons_zero, List.set_cons_succ]
      refine wpAnyH_take (i := 9) (v := ?_) rfl (by kernel_rfl) (by kernel_rfl) (by kernel_rfl) (fun _ _ _ h => h) (Or.inl ⟨by rfl, ?_⟩) (by assumption) ?_
      rotate_left
      · (intro w hSw; (try dsimp only at hSw); obtain ⟨t0, t1, t2, t3⟩ := hSw; go_simp; try (with_reducible rfl))
      try simp only [Act.put, List.getElem_toArray, List.getElem_cons_succ, List.getElem_cons_zero, List.setIfInBounds_toArray, List.set_cons_zero, List.set_cons_succ]
      refine wpAnyH_take (i := 10) (v := ?_) rfl (by kernel_rfl) (by kernel_rfl) (by kernel_rfl) (fun _ _ _ h => h) (Or.inl ⟨by rfl, ?_⟩) (by assumption) ?_
      rotate_left
      · (intro w hSw; (try dsimp only at hSw); obtain ⟨t0, t1, t2, t3⟩ := hSw; go_simp; try (with_reducible rfl))
      try simp only [Act.put, List.getElem_toArray, List.getElem_cons_succ, List.getElem_cons_zero, List.setIfInBounds_toArray, List.set_cons_zero, List.set_cons_succ]
      refine wpAnyH_take (i := 11) (v := ?_) rfl (by kernel_rfl) (by kernel_rfl) (by kernel_rfl) (fun _ _ _ h => h) (Or.inl ⟨by rfl, ?_⟩) (by assumption) ?_
      rotate_left
      · (intro w hSw; (try dsimp only at hSw); obtain ⟨t0, t1, t2, t3⟩ := hSw; go_simp; try (with_reducible rfl))
      try simp only [Act.put, List.getElem_toArray, List.getElem_cons_succ, List.getElem_cons_zero, List.setIfInBounds_toArray, List.set_cons_zero, List.set_cons_succ]
      refine wpAnyH_take (i := 12) (v := ?_) rfl (by kernel_rfl) (by kernel_rfl) (by kernel_rfl) (fun _ _ _ h => h) (Or.inl ⟨by rfl, ?_⟩) (by assumption) ?_
      rotate_left
      · (intro w hSw; (try dsimp only at hSw); obtain ⟨t0, t1, t2, t3⟩ := hSw; go_simp; try (with_reducible rfl))
      try simp only [Act.put, List.getElem_toArray, List.getElem_cons_succ, List.getElem_cons_zero, List.setIfInBounds_toArray, List.set_cons_zero, List.set_cons_succ]
      refine wpAnyH_take (i := 13) (v := ?_) rfl (by kernel_rfl) (by kernel_rfl) (by kernel_rfl) (fun _ _ _ h => h) (Or.inl ⟨by rfl, ?_⟩) (by assumption) ?_
      rotate_left
      · (intro w hSw; (try dsimp only at hSw); obtain ⟨t0, t1, t2, t3⟩ := hSw; go_simp; try (with_reducible rfl))
      try simp only [Act.put, List.getElem_toArray, List.getElem_cons_succ, List.getElem_cons_zero, List.setIfInBounds_toArray, List.set_cons_zero, List.set_cons_succ]
      refine wpAnyH_take (i := 14) (v := ?_) rfl (by kernel_rfl) (by kernel_rfl) (by kernel_rfl) (fun _ _ _ h => h) (Or.inl ⟨by rfl, ?_⟩) (by assumption) ?_
      rotate_left
      · (intro w hSw; (try dsimp only at hSw); obtain ⟨t0, t1, t2, t3⟩ := hSw; go_simp; try (with_reducible rfl))
      try simp only [Act.put, List.getElem_toArray, List.getElem_cons_succ, List.getElem_cons_zero, List.setIfInBounds_toArray, List.set_cons_zero, List.set_cons_succ]
      refine wpAnyH_take (i := 15) (v := ?_) rfl (by kernel_rfl) (by kernel_rfl) (by kernel_rfl) (fun _ _ _ h => h) (Or.inl ⟨by rfl, ?_⟩) (by assumption) ?_
      rotate_left
      · (intro w hSw; (try dsimp only at hSw); obtain ⟨t0, t1, t2, t3⟩ := hSw; go_simp; try (with_reducible rfl))
      try simp only [Act.put, List.getElem_toArray, List.getElem_cons_succ, List.getElem_cons_zero, List.setIfInBounds_toArray, List.set_cons_zero, List.set_cons_succ]
      refine wpAnyH_take (i := 16) (v := ?_) rfl (by kernel_rfl) (by kernel_rfl) (by kernel_rfl) (fun _ _ _ h => h) (Or.inl ⟨by rfl, ?_⟩) (by assumption) ?_
      rotate_left
      · (intro w hSw; (try dsimp only at hSw); obtain ⟨t0, t1, t2, t3⟩ := hSw; go_simp; try (with_reducible rfl))
      try simp only [Act.put, List.getElem_toArray, List.getElem_cons_succ, List.getElem_cons_zero, List.setIfInBounds_toArray, List.set_cons_zero, List.set_cons_succ]
      refine wpAnyH_take (i := 17) (v := ?_) rfl (by kernel_rfl) (by kernel_rfl) (by kernel_rfl) (fun _ _ _ h => h) (Or.inl ⟨by rfl, ?_⟩) (by assumption) ?_
      rotate_left
      · (intro w hSw; (try dsimp only at hSw); obtain ⟨t0, t1, t2, t3⟩ := hSw; go_simp; try (with_reducible rfl))
      try simp only [Act.put, List.getElem_toArray, List.getElem_cons_succ, List.getElem_cons_zero, List.setIfInBounds_toArray, List.set_cons_zero, List.set_cons_succ]
      refine wpAnyH_take (i := 18) (v := ?_) rfl (by kernel_rfl) (by kernel_rfl) (by kernel_rfl) (fun _ _ _ h => h) (Or.inl ⟨by rfl, ?_⟩) (by assumption) ?_
      rotate_left
      · (intro w hSw; (try dsimp only at hSw); obtain ⟨t0, t1, t2, t3⟩ := hSw; go_simp; try (with_reducible rfl))
      try simp only [Act.put, List.getElem_toArray, List.getElem_cons_succ, List.getElem_cons_zero, List.setIfInBounds_toArray, List.set_cons_zero, List.set_cons_succ]
      refine wpAnyH_take (i := 19) (v := ?_) rfl (by kernel_rfl) (by kernel_rfl) (by kernel_rfl) (fun _ _ _ h => h) (Or.inl ⟨by rfl, ?_⟩) (by assumption) ?_
      rotate_left
      · (intro w hSw; (try dsimp only at hSw); obtain ⟨t0, t1, t2, t3⟩ := hSw; go_simp; try (with_reducible rfl))
      try simp only [Act.put, List.getElem_toArray, List.getElem_cons_succ, List.getElem_cons_zero, List.setIfInBounds_toArray, List.set_cons_zero, List.set_cons_succ]
      refine wpAnyH_take (i := 20) (v := ?_) rfl (by kernel_rfl) (by kernel_rfl) (by kernel_rfl) (fun _ _ _ h => h) (Or.inl ⟨by rfl, ?_⟩) (by assumption) ?_
      rotate_left
      · (intro w hSw; (try dsimp only at hSw); obtain ⟨t0, t1, t2, t3⟩ := hSw; go_simp; try (with_reducible rfl))
      try simp only [Act.put, List.getElem_toArray, List.getElem_cons_succ, List.getElem_cons_zero, List.setIfInBounds_toArray, List.set_cons_zero, List.set_cons_succ]
      refine wpAnyH_ready (rs := [21]) (by kernel_rfl) (by simp) ?_
      refine AllReadyH.cons rfl (fun K hK => ?_) AllReadyH.nil
      go_simp
      refine hK.out _ _ HAA.out (fun hHeld1 => ?_)
      clear hK K
      try simp only [Act.put, List.getElem_toArray, List.getElem_cons_succ, List.getElem_cons_zero, List.setIfInBounds_toArray, List.set_cons_zero, List.set_cons_succ]
      refine wpAnyH_ready (rs := [22]) (by kernel_rfl) (by simp) ?_
      refine AllReadyH.cons rfl (fun K hK => ?_) AllReadyH.nil
      go_simp
      refine (HNU.out).mono ?_
      rintro e w1 ⟨y1, rfl, hyl, hgy, hb1⟩
      have HYL := Lib.hid hyl
      have HGZ := Lib.hid (HGA.out.below hb1)
      have HA1 := Lib.hid (HAA.out.bf (F := No) (Bf.below hb1) (Nat.lt_of_lt_of_le HL2.out (by simp)) fun h => h)
      have HL3 := Lib.hid (show b < w1.heap.size from Nat.lt_of_lt_of_le HL2.out (Nat.le_trans (by simp) hb1.size))
      have HB1 := Lib.hid (HBA.out.trans (hb1.mono HBA.out.size))
      have HSRC := Lib.hid ((hgy.lz (F := No) fun _ h => h.elim).rd)
      clear hyl hgy hb1 HNU HAA HA HGA HBA
      try go_simp
      refine hK.out _ _ HA1.out (fun hHeld1 => ?_)
      clear hK K
      try simp only [Act.put, List.getElem_toArray, List.getElem_cons_succ, List.getElem_cons_zero, List.setIfInBounds_toArray, List.set_cons_zero, List.set_cons_succ]
      have hy40 : y1.l.length ≤ 40 := by rw [HYL.out, HNB.out]; exact HE40.out
      have hy0 : 0 < y1.l.length := by rw [HYL.out, HNB.out]; have := Pk.num_pos y.dst; unfold nBx; rw [List.length_append]; omega
      obtain ⟨b1, o1, e1, _, _, hsrc⟩ := HSRC.out hy0
      have HY1 := Lib.hid (show y1.v = .slice (some ⟨b1, o1, none⟩) y1.l.length y1.c by unfold Ls.v; rw [e1])
      have HS1 := Lib.hid (show ∀ j u, (kU8.cells y1.l)[j]? = some u → w1.cell? ((⟨b1, o1, none⟩ : Addr).add j) = some u from fun j u hu => by rw [Addr.add_lit]; exact hsrc j u hu)
      clear hsrc e1 HSRC
      refine wpAnyH_ready (rs := [23]) (by kernel_rfl) (by simp) ?_
      refine AllReadyH.cons rfl (fun K hK => ?_) AllReadyH.nil
      refine step_push1 ki_u8 rfl (.tmp 14) (.tmp 36) rfl w.heap.size z HGZ.out HZV.out ⟨b1, o1, none⟩ y1.l.length y1.c y1.l HY1.out rfl hy0 HS1.out (by have := HZ40.out; omega) HB1.out.size ?_
      intro z2 w2 hz2 hg2 hgw _
      have HZ2 := Lib.hid hz2
      have HG2 := Lib.hid hg2
      have HB2 := Lib.hid (HB1.out.grown hgw HB1.out.size fun g eg => (HGZ.out.lt g eg).1)
      have HA2 := Lib.hid (HA1.out.bf (Bf.grown hgw fun g eg => (HGZ.out.lt g eg).1) HL3.out (by have := HBB.out; omega))
      clear hz2 hg2 hgw HGZ HS1
      refine hK.out _ _ HA2.out (fun hHeld1 => ?_)
      clear hK K
      try simp only [Act.put, List.getElem_toArray, List.getElem_cons_succ, List.getElem_cons_zero, List.setIfInBounds_toArray, List.set_cons_zero, List.set_cons_succ]
      refine wpAnyH_take (i := 24) (v := ?_) rfl (by kernel_rfl) (by kernel_rfl) (by kernel_rfl) (fun _ _ _ h => h) (Or.inl ⟨by rfl, ?_⟩) (by assumption) ?_
      rotate_left
      · (intro w hSw; (try dsimp only at hSw); obtain ⟨t0, t1, t2, t3⟩ := hSw; go_simp; try (with_reducible rfl))
      try simp only [Act.put, List.getElem_toArray, List.getElem_cons_succ, List.getElem_cons_zero, List.setIfInBounds_toArray, List.set_cons_zero, List.set_cons_succ]
      refine wpAnyH_done (by kernel_rfl) ?_ _
      have hnb : y1.l = nBx y := HYL.out.trans HNB.out
      go_wp2
      go_roundw
      case rel => exact ⟨k + 1, z2, rfl, by go_num, hlt, by rw [HZ2.out, HZL.out, hnb, HTK.out, List.append_assoc], by rw [HZ2.out, List.length_append, hnb]; have := HZ40.out; have := HE40.out; omega, HG2.out, HB2.out⟩
      case measure => simp [intOf]; omega
    · have q1_ : ¬ (k : Int) < (n : Int) := by omega
      clear hzv hzl hz40 hgr hb
      go_wp2
      go_ret
      exact ⟨z, congrArg Ending.returned HZV.out, by rw [HE0.out, HZL.out, flat_whole _ (by have := HN.out; omega)], HGR'.out, HB'.out⟩
end Ot
end Go.Proofs.YtkicjjcangkneaaGreatDoor

/-
  The reference's bytes of an operation. For operations of few items, with short texts.
-/
namespace Go.Proofs.YtkicjjcangkneaaGreatDoor
open Go.RowKit
attribute [local go_sem ↓] Go.wp_at_zero Go.wp_at_succ
set_option maxRecDepth 100000
namespace Ot
/-- The bytes under way: V is the operation's variable, z the bytes so far, which are L, at most M. -/
structure Rb (V : Nat) (w W : World) (o : LOp) (z : Ls UInt8) (L : List UInt8) (M : Nat) : Prop where
  vr : Vr W V o
  lies : Lies (fun k => V ≤ k) W o
  gr : Gr kU8 (V + 1) W z
  eq : z.l = L
  len : z.l.length ≤ M
  bel : Below V w W
  size : V + 1 ≤ W.heap.size
theorem Rb.below {V M : Nat} {w W W' : World} {o : LOp} {z : Ls UInt8} {L : List UInt8} (h : Rb V w W o z L M) (hb : Below W.heap.size W W') : Rb V w W' o z L M :=
  ⟨h.vr.below hb (Blk.lt h.vr), h.lies.below hb, h.gr.below hb, h.eq, h.len, h.bel.trans (hb.mono (by have := h.size; omega)), Nat.le_trans h.size hb.size⟩
theorem Rb.alloc {V M : Nat} {w W : World} {o : LOp} {z : Ls UInt8} {L : List UInt8} (h : Rb V w W o z L M) (b : Obj) : Rb V w (W.alloc b) o z L M := h.below ((Below.refl _ W).alloc (Nat.le_refl _) b)
theorem Rb.push {V M m : Nat} {w W W' : World} {o : LOp} {z z2 y : Ls UInt8} {L l : List UInt8} (h : Rb V w W o z L M) (hz : z2.l = z.l ++ y.l) (hy : y.l = l) (hl : l.length ≤ m) (hg : Gr kU8 (V + 1) W' z2) (hgw : W.grownBy W' z.v.ownBlock) : Rb V w W' o z2 (L ++ l) (M + m) := by
  have hs := hgw.size
  have hv := h.size
  refine ⟨blk_grown h.vr hgw fun eg => ?_, h.lies.bf (Bf.grown hgw fun g eg => ?_), hg, by rw [hz, hy, h.eq], by rw [hz, List.length_append, hy]; have := h.len; omega, h.bel.grown hgw (by omega) fun g eg => ?_, by omega⟩
  · have := (h.gr.lt V eg.symm).1; omega
  · have := (h.gr.lt g eg).1; show V ≤ g; omega
  · have := (h.gr.lt g eg).1; omega
theorem nd_most {o : LOp} (h : Tiny o.er) : o.path.l.length ≤ 20 := by have := h.path; unfold LOp.er at this; rw [List.length_map] at this; exact this
theorem sd_most {o : LOp} (h : Tiny o.er) : o.hist.l.length ≤ 20 := by have := h.hist; unfold LOp.er at this; rw [List.length_map] at this; exact this
theorem ints5 (a b c d e : Int) (ha : i64 a) (hb : i64 b) (hc : i64 c) (hd : i64 d) (he : i64 e) : (∀ y ∈ [a, b, c, d, e], i64 y) ∧ ([a, b, c, d, e].flatMap Pk.nInt).length ≤ 50 := by
  have h0 : ∀ y ∈ [a, b, c, d, e], i64 y := by intro y hy; simp at hy; rcases hy with rfl | rfl | rfl | rfl | rfl <;> assumption
  exact ⟨h0, flat_most (m := 10) [a, b, c, d, e] fun y hy => Pk.nInt_len y (h0 y hy).1 (h0 y hy).2⟩
theorem ints2 (a b : Int) (ha : i64 a) (hb : i64 b) : (∀ y ∈ [a, b], i64 y) ∧ ([a, b].flatMap Pk.nInt).length ≤ 20 := by
  have h0 : ∀ y ∈ [a, b], i64 y := by intro y hy; simp at hy; rcases hy with rfl | rfl <;> assumption
  exact ⟨h0, flat_most (m := 10) [a, b] fun y hy => Pk.nInt_len y (h0 y hy).1 (h0 y hy).2⟩
theorem len_i64 {n m : Nat} (h : n ≤ m) (hm : m ≤ 1000) : i64 (n : Int) := ⟨by omega, by omega⟩
theorem flat_up {α : Type} {f : α → List UInt8} (m n : Nat) (l : List α) (hl : l.length ≤ n) (h : ∀ y ∈ l, (f y).length ≤ m) : (l.flatMap f).length ≤ n * m := Nat.le_trans (flat_most l h) (Nat.mul_le_mul_right _ hl)
theorem Rb.le {V M M' : Nat} {w W : World} {o : LOp} {z : Ls UInt8} {L L' : List UInt8} (h : Rb V w W o z L M) (hM : M ≤ M') (hL : L = L') : Rb V w W o z L' M' := hL ▸ ⟨h.vr, h.lies, h.gr, h.eq, Nat.le_trans h.len hM, h.bel, h.size⟩

set_option maxHeartbeats 8000000 in
theorem rcon_any {w : World} (o : LOp) (hx : Lies No w o) (ht : Tiny o.er) :
    Calls Tryz.prog 30 #[o.v] w fun e w' => Byt w w' e (con o.er) := by
  obtain ⟨cs, hcs⟩ : ∃ cs, cs = o.cells := ⟨_, rfl⟩
  have hV : Vr (w.alloc (.cells cs 35)) w.heap.size o := by
    unfold Vr
    rw [← hcs]
    exact blk_new w 35 cs
  have hL0 : Lies (fun k => w.heap.size ≤ k) (w.alloc (.cells cs 35)) o := (hx.weak (F := No) fun k hk hf => by have hf : w.heap.size ≤ k := hf; omega).alloc _
  have hb0 : Below w.heap.size w (w.alloc (.cells cs 35)) := (Below.refl _ w).alloc (Nat.le_refl _) _
  have hs0 : w.heap.size + 1 ≤ (w.alloc (.cells cs 35)).heap.size := by simp
  have HK := Lib.hid ht.ok
  have HT := Lib.hid ht
  have HL0 := Lib.hid hL0
  have HV0 := Lib.hid hV
  have HB0 := Lib.hid hb0
  have HS0 := Lib.hid hs0
  have npa : o.past.l.length ≤ 20 := ht.past
  have npt := nd_most ht
  have nhi := sd_most ht
  have nbo : o.body.l.length ≤ 300 := ht.body
  have nre : o.refs.l.length ≤ 20 := ht.refs
  have ngu : o.guards.l.length ≤ 20 := ht.guards
  have nbx : o.boxes.l.length ≤ 20 := ht.boxes
  have c0 := (hV.cell 0).trans o.c0
  have c1 := (hV.cell 1).trans o.c1
  have c2 := (hV.cell 2).trans o.c2
  have c3 := (hV.cell 3).trans o.c3
  have c4 := (hV.cell 4).trans o.c4
  have HCS := Lib.hid hcs
  show Calls _ _ #[.agg o.cells] w _
  rw [← hcs]
  clear hx ht hL0 hV hb0 hs0 hcs
  go_enter Tryz.func30, Tryz.ntmps30
  go_wp2_with fail
  have HI := Lib.hid (ints5 (o.by_) (o.seq) (o.kind) (o.at_) ((o.past.l.length : Int)) (HK.out.by_) (HK.out.seq) (HK.out.kind) (HK.out.at_) (len_i64 npa (by omega)))
  have HO := Lib.hid (rints_any (w := (w.alloc (.cells cs 35)).alloc (.cells #[.int .i64 o.by_, .int .i64 o.seq, .int .i64 o.kind, .int .i64 o.at_, .int .i64 (o.past.l.length : Int)] 3)) ⟨[o.by_, o.seq, o.kind, o.at_, (o.past.l.length : Int)], some ⟨(w.alloc (.cells cs 35)).heap.size, 0, none⟩, 5⟩ (lz_new (K := kInt) (w.alloc (.cells cs 35)) [o.by_, o.seq, o.kind, o.at_, (o.past.l.length : Int)] #[.int .i64 o.by_, .int .i64 o.seq, .int .i64 o.kind, .int .i64 o.at_, .int .i64 (o.past.l.length : Int)] 5 rfl rfl) (by show 5 ≤ 1000; omega) HI.out.1)
  rw [show (w.alloc (.cells cs 35)).heap.size = w.heap.size + 1 from by simp] at HO
  have hba := (Below.refl (w.alloc (.cells cs 35)).heap.size (w.alloc (.cells cs 35))).alloc (Nat.le_refl _) (.cells #[.int .i64 o.by_, .int .i64 o.seq, .int .i64 o.kind, .int .i64 o.at_, .int .i64 (o.past.l.length : Int)] 3)
  clear c0 c1 c2 c3 c4
  refine (HO.out).mono ?_
  rintro e w0 ⟨z0, rfl, hzl, hgz, hbz⟩
  have hbb := hba.trans (hbz.mono hba.size)
  have HR := Lib.hid (show Rb w.heap.size w w0 o z0 ([o.by_, o.seq, o.kind, o.at_, (o.past.l.length : Int)].flatMap Pk.nInt) 50 from ⟨HV0.out.below hbb (by simp), HL0.out.below hbb, hgz.base (Nat.le_trans HS0.out hba.size), hzl, by rw [hzl]; exact HI.out.2, HB0.out.trans (hbb.mono HB0.out.size), Nat.le_trans HS0.out hbb.size⟩)
  clear hzl hgz hbz hba hbb HO HI HV0 HL0 HB0 HS0
  go_upto_block 0 with (fail)
  go_cut [3] (fun v wx => ∃ z : Ls UInt8, v = z.v ∧ Rb w.heap.size w wx o z (([o.by_, o.seq, o.kind, o.at_, (o.past.l.length : Int)].flatMap Pk.nInt) ++ o.past.l.flatMap Pk.nName) 650)
  case first =>
    have c4 := (HR.out.vr.cell 4).trans o.c4
    go_wp2
    clear c4
    go_loopw [3, 4] (fun ov iv wr => ∃ (k : Nat) (z : Ls UInt8), ov = z.v ∧ iv = .int .i64 (k : Int) ∧ k ≤ o.past.l.length ∧ Rb w.heap.size w wr o z (([o.by_, o.seq, o.kind, o.at_, (o.past.l.length : Int)].flatMap Pk.nInt) ++ (o.past.l.take k).flatMap Pk.nName) (50 + 30 * k)) (fun _ iv _ => o.past.l.length - (intOf iv).toNat)
    case atStart => exact ⟨0, _, rfl, rfl, Nat.zero_le _, HR.out.le (by omega) (by simp)⟩
    case round =>
      obtain ⟨k, z, rfl, rfl, hk, hrb⟩ := hrel
      clear HR
      have HR := Lib.hid hrb
      clear hrb
      obtain ⟨wo, rfl⟩ : ∃ wo, wo = wr := ⟨_, rfl⟩
      have c4 := (HR.out.vr.cell 4).trans o.c4
      by_cases hlt : k < o.past.l.length
      · obtain ⟨y, hy⟩ : ∃ y, o.past.l[k]? = some y := ⟨_, List.getElem?_eq_getElem hlt⟩
        have HMY := Lib.hid (List.mem_of_getElem? hy)
        have HTK := Lib.hid (flat_snoc Pk.nName hy)
        have HIY := Lib.hid hy
        have q0_ : (0 : Int) ≤ (k : Int) := by omega
        have q1_ : (k : Int) < (o.past.l.length : Int) := by omega
        have qd_ : decide ((k : Int) < (o.past.l.length : Int)) = true := decide_eq_true (by omega)
        obtain ⟨b, off, hA, _, _, e0, e1, e2⟩ := HR.out.lies.past.nm hy
        rw [hA] at c4
        clear hA hy
        go_wp2_with fail
        have HO := Lib.hid (rwname_any y wo (HK.out.past.2 y HMY.out).1.1 (HK.out.past.2 y HMY.out).1.2 (HK.out.past.2 y HMY.out).2.1.1 (HK.out.past.2 y HMY.out).2.1.2 (HK.out.past.2 y HMY.out).2.2)
        have HM := Lib.hid (show (Pk.nName y).length ≤ 30 from nm_len y (HK.out.past.2 y HMY.out))
        refine (HO.out).mono ?_
        rintro e w1 hbys
        obtain ⟨y1, rfl, hyl, hgy, hby⟩ := Bys.byt hbys
        have HRB := Lib.hid (HR.out.below hby)
        have HY := Lib.hid (hgy.lz (F := No) fun _ h => h.elim)
        have HYL := Lib.hid hyl
        clear hyl hgy hby HO HR hbys c4 e0 e1 e2
        go_wp2_with (at_builtin; refine wpList_push_ls ki_u8 rfl _ _ rfl (w.heap.size + 1) _ y1 HRB.out.gr rfl HY.out rfl (by rw [HYL.out]; have h1 := HRB.out.len; have h2 := HM.out; omega) HRB.out.size ?_; intro z1 v1 hz hg _ hgw; have HR := Lib.hid (HRB.out.push hz HYL.out HM.out hg hgw); clear hz hg hgw HRB HY HYL HM)
        have HRF := Lib.hid (HR.out.le (M' := 50 + 30 * (k + 1)) (L' := ([o.by_, o.seq, o.kind, o.at_, (o.past.l.length : Int)].flatMap Pk.nInt) ++ (o.past.l.take (k + 1)).flatMap Pk.nName) (by omega) (by rw [HTK.out, List.append_assoc]))
        go_roundw
        case rel => exact ⟨k + 1, _, rfl, by go_num, hlt, HRF.out⟩
        case measure => simp [intOf]; omega
      · have q1_ : ¬ (k : Int) < (o.past.l.length : Int) := by omega
        have qd_ : decide ((k : Int) < (o.past.l.length : Int)) = false := decide_eq_false (by omega)
        go_wp2
        go_meet
        exact ⟨z, rfl, HR.out.le (by omega) (by rw [flat_whole _ (by omega)])⟩
  case rest =>
    obtain ⟨z, rfl, hrb⟩ := hcut
    clear HR
    have HR := Lib.hid hrb
    clear hrb
    obtain ⟨wq1, rfl⟩ : ∃ wq, wq = wc := ⟨_, rfl⟩
    have c5 := (HR.out.vr.cell 5).trans o.c5
    have c6 := (HR.out.vr.cell 6).trans o.c6
    have c7 := (HR.out.vr.cell 7).trans o.c7
    have c8 := (HR.out.vr.cell 8).trans o.c8
    have c9 := (HR.out.vr.cell 9).trans o.c9
    go_wp2_with fail
    have HI := Lib.hid (ints5 (o.dev) (o.old) (o.mem) (o.role) ((o.path.l.length : Int)) (HK.out.dev) (HK.out.old) (HK.out.mem) (HK.out.role) (len_i64 npt (by omega)))
    have HR' := Lib.hid (HR.out.alloc (.cells #[.int .i64 o.dev, .int .i64 o.old, .int .i64 o.mem, .int .i64 o.role, .int .i64 (o.path.l.length : Int)] 3))
    clear HR
    have HR := HR'
    clear HR'
    have HO := Lib.hid (rints_any (w := wq1.alloc (.cells #[.int .i64 o.dev, .int .i64 o.old, .int .i64 o.mem, .int .i64 o.role, .int .i64 (o.path.l.length : Int)] 3)) ⟨[o.dev, o.old, o.mem, o.role, (o.path.l.length : Int)], some ⟨wq1.heap.size, 0, none⟩, 5⟩ (lz_new (K := kInt) wq1 [o.dev, o.old, o.mem, o.role, (o.path.l.length : Int)] #[.int .i64 o.dev, .int .i64 o.old, .int .i64 o.mem, .int .i64 o.role, .int .i64 (o.path.l.length : Int)] 5 rfl rfl) (by show 5 ≤ 1000; omega) HI.out.1)
    have HM := Lib.hid (show ([o.dev, o.old, o.mem, o.role, (o.path.l.length : Int)].flatMap Pk.nInt).length ≤ 50 from HI.out.2)
    refine (HO.out).mono ?_
    rintro e w2 ⟨y2, rfl, hyl, hgy, hby⟩
    have HRB := Lib.hid (HR.out.below hby)
    have HY := Lib.hid (hgy.lz (F := No) fun _ h => h.elim)
    have HYL := Lib.hid hyl
    clear hyl hgy hby HO HR c5 c6 c7 c8 c9
    go_upto_block 2 with (at_builtin; refine wpList_push_ls ki_u8 rfl _ _ rfl (w.heap.size + 1) _ y2 HRB.out.gr rfl HY.out rfl (by rw [HYL.out]; have h1 := HRB.out.len; have h2 := HM.out; omega) HRB.out.size ?_; intro z2 v2 hz hg _ hgw; have HR := Lib.hid (HRB.out.push hz HYL.out HM.out hg hgw); clear hz hg hgw HRB HY HYL HM)
    clear HI
    go_cut [3] (fun v wx => ∃ z : Ls UInt8, v = z.v ∧ Rb w.heap.size w wx o z (((([o.by_, o.seq, o.kind, o.at_, (o.past.l.length : Int)].flatMap Pk.nInt) ++ o.past.l.flatMap Pk.nName) ++ [o.dev, o.old, o.mem, o.role, (o.path.l.length : Int)].flatMap Pk.nInt) ++ o.path.l.flatMap (fun y => nNd y.er)) 17100)
    case first =>
      have c9 := (HR.out.vr.cell 9).trans o.c9
      go_wp2
      clear c9
      go_loopw [3, 5] (fun ov iv wr => ∃ (k : Nat) (z : Ls UInt8), ov = z.v ∧ iv = .int .i64 (k : Int) ∧ k ≤ o.path.l.length ∧ Rb w.heap.size w wr o z (((([o.by_, o.seq, o.kind, o.at_, (o.past.l.length : Int)].flatMap Pk.nInt) ++ o.past.l.flatMap Pk.nName) ++ [o.dev, o.old, o.mem, o.role, (o.path.l.length : Int)].flatMap Pk.nInt) ++ (o.path.l.take k).flatMap (fun y => nNd y.er)) (700 + 820 * k)) (fun _ iv _ => o.path.l.length - (intOf iv).toNat)
      case atStart => exact ⟨0, _, rfl, rfl, Nat.zero_le _, HR.out.le (by omega) (by simp)⟩
      case round =>
        obtain ⟨k, z, rfl, rfl, hk, hrb⟩ := hrel
        clear HR
        have HR := Lib.hid hrb
        clear hrb
        obtain ⟨wo, rfl⟩ : ∃ wo, wo = wr := ⟨_, rfl⟩
        have c9 := (HR.out.vr.cell 9).trans o.c9
        by_cases hlt : k < o.path.l.length
        · obtain ⟨y, hy⟩ : ∃ y, o.path.l[k]? = some y := ⟨_, List.getElem?_eq_getElem hlt⟩
          have HMY := Lib.hid (List.mem_of_getElem? hy)
          have HTK := Lib.hid (flat_snoc (fun y => nNd y.er) hy)
          have HIY := Lib.hid hy
          have q0_ : (0 : Int) ≤ (k : Int) := by omega
          have q1_ : (k : Int) < (o.path.l.length : Int) := by omega
          have qd_ : decide ((k : Int) < (o.path.l.length : Int)) = true := decide_eq_true (by omega)
          obtain ⟨b, off, hA, _, _, e0, e1⟩ := HR.out.lies.path.nd hy
          rw [hA] at c9
          clear hA hy
          go_wp2_with fail
          have HO := Lib.hid (rwnum_any y.pub wo (HK.out.path.2 y.er (List.mem_map_of_mem HMY.out)).1)
          have HM := Lib.hid (show (Pk.num y.pub).length ≤ 10 from Pk.num_len10 _ (HK.out.path.2 y.er (List.mem_map_of_mem HMY.out)).1)
          refine (HO.out).mono ?_
          rintro e w3 hbys
          obtain ⟨y3, rfl, hyl, hgy, hby⟩ := Bys.byt hbys
          have HRB := Lib.hid (HR.out.below hby)
          have HY := Lib.hid (hgy.lz (F := No) fun _ h => h.elim)
          have HYL := Lib.hid hyl
          clear hyl hgy hby HO HR hbys c9 e0 e1
          go_wp2_with (at_builtin; refine wpList_push_ls ki_u8 rfl _ _ rfl (w.heap.size + 1) _ y3 HRB.out.gr rfl HY.out rfl (by rw [HYL.out]; have h1 := HRB.out.len; have h2 := HM.out; omega) HRB.out.size ?_; intro z3 v3 hz hg _ hgw; have HR := Lib.hid (HRB.out.push hz HYL.out HM.out hg hgw); clear hz hg hgw HRB HY HYL HM; have c9 := (HR.out.vr.cell 9).trans o.c9; obtain ⟨b2, off2, hA2, _, _, e0, e1⟩ := HR.out.lies.path.nd HIY.out; rw [hA2] at c9; clear hA2)
          have HO := Lib.hid (rboxes_ref y.boxes (HR.out.lies.pathB y HMY.out).no (Nat.le_trans (HT.out.pathB y.er (List.mem_map_of_mem HMY.out)) (by omega)) (HK.out.path.2 y.er (List.mem_map_of_mem HMY.out)).2.2)
          have HM := Lib.hid (show (wEach nBx y.boxes.l).length ≤ 810 from wEach_len (wr := nBx) 40 (fun b hb => bx_len b ((HK.out.path.2 y.er (List.mem_map_of_mem HMY.out)).2.2 b hb)) 20 (HT.out.pathB y.er (List.mem_map_of_mem HMY.out)) (by omega))
          refine (HO.out).mono ?_
          rintro e w4 ⟨y4, rfl, hyl, hgy, hby⟩
          have HRB := Lib.hid (HR.out.below hby)
          have HY := Lib.hid (hgy.lz (F := No) fun _ h => h.elim)
          have HYL := Lib.hid hyl
          clear hyl hgy hby HO HR c9 e0 e1
          go_wp2_with (at_builtin; refine wpList_push_ls ki_u8 rfl _ _ rfl (w.heap.size + 1) _ y4 HRB.out.gr rfl HY.out rfl (by rw [HYL.out]; have h1 := HRB.out.len; have h2 := HM.out; omega) HRB.out.size ?_; intro z4 v4 hz hg _ hgw; have HR := Lib.hid (HRB.out.push hz HYL.out HM.out hg hgw); clear hz hg hgw HRB HY HYL HM)
          have HRF := Lib.hid (HR.out.le (M' := 700 + 820 * (k + 1)) (L' := ((([o.by_, o.seq, o.kind, o.at_, (o.past.l.length : Int)].flatMap Pk.nInt) ++ o.past.l.flatMap Pk.nName) ++ [o.dev, o.old, o.mem, o.role, (o.path.l.length : Int)].flatMap Pk.nInt) ++ (o.path.l.take (k + 1)).flatMap (fun y => nNd y.er)) (by omega) (by rw [HTK.out, List.append_assoc, List.append_assoc]; rfl))
          go_roundw
          case rel => exact ⟨k + 1, _, rfl, by go_num, hlt, HRF.out⟩
          case measure => simp [intOf]; omega
        · have q1_ : ¬ (k : Int) < (o.path.l.length : Int) := by omega
          have qd_ : decide ((k : Int) < (o.path.l.length : Int)) = false := decide_eq_false (by omega)
          go_wp2
          go_meet
          exact ⟨z, rfl, HR.out.le (by omega) (by rw [flat_whole _ (by omega)])⟩
    case rest =>
      obtain ⟨z, rfl, hrb⟩ := hcut
      clear HR
      have HR := Lib.hid hrb
      clear hrb
      obtain ⟨wq2, rfl⟩ : ∃ wq, wq = wc := ⟨_, rfl⟩
      have c10 := (HR.out.vr.cell 10).trans o.c10
      have c11 := (HR.out.vr.cell 11).trans o.c11
      have c12 := (HR.out.vr.cell 12).trans o.c12
      go_wp2_with fail
      have HO := Lib.hid (rwname_any o.epoch wq2 HK.out.epoch.1.1 HK.out.epoch.1.2 HK.out.epoch.2.1.1 HK.out.epoch.2.1.2 HK.out.epoch.2.2)
      have HM := Lib.hid (show (Pk.nName o.epoch).length ≤ 30 from nm_len _ HK.out.epoch)
      refine (HO.out).mono ?_
      rintro e w5 hbys
      obtain ⟨y5, rfl, hyl, hgy, hby⟩ := Bys.byt hbys
      have HRB := Lib.hid (HR.out.below hby)
      have HY := Lib.hid (hgy.lz (F := No) fun _ h => h.elim)
      have HYL := Lib.hid hyl
      clear hyl hgy hby HO HR hbys c10 c11 c12
      go_wp2_with (at_builtin; refine wpList_push_ls ki_u8 rfl _ _ rfl (w.heap.size + 1) _ y5 HRB.out.gr rfl HY.out rfl (by rw [HYL.out]; have h1 := HRB.out.len; have h2 := HM.out; omega) HRB.out.size ?_; intro z5 v5 hz hg _ hgw; have HR := Lib.hid (HRB.out.push hz HYL.out HM.out hg hgw); clear hz hg hgw HRB HY HYL HM; have c13 := (HR.out.vr.cell 13).trans o.c13)
      have HO := Lib.hid (rwint_any o.n v5 HK.out.n.1 HK.out.n.2)
      have HM := Lib.hid (show (Pk.nInt o.n).length ≤ 10 from Pk.nInt_len _ HK.out.n.1 HK.out.n.2)
      refine (HO.out).mono ?_
      rintro e w6 hbys
      obtain ⟨y6, rfl, hyl, hgy, hby⟩ := Bys.byt hbys
      have HRB := Lib.hid (HR.out.below hby)
      have HY := Lib.hid (hgy.lz (F := No) fun _ h => h.elim)
      have HYL := Lib.hid hyl
      clear hyl hgy hby HO HR hbys c13
      go_wp2_with (at_builtin; refine wpList_push_ls ki_u8 rfl _ _ rfl (w.heap.size + 1) _ y6 HRB.out.gr rfl HY.out rfl (by rw [HYL.out]; have h1 := HRB.out.len; have h2 := HM.out; omega) HRB.out.size ?_; intro z6 v6 hz hg _ hgw; have HR := Lib.hid (HRB.out.push hz HYL.out HM.out hg hgw); clear hz hg hgw HRB HY HYL HM; have c14 := (HR.out.vr.cell 14).trans o.c14; have cv := cu_conv_rd o.body.A o.body.l.length o.body.c _ _ o.body.l rfl HR.out.lies.body.rd8)
      have HO := Lib.hid (rwtext_any ⟨o.body.l.toArray⟩ v6 (by show o.body.l.toArray.size ≤ 1000; simp; omega))
      have HM := Lib.hid (show (Pk.nText o.body.l).length ≤ 310 from tx_len _ nbo)
      refine (HO.out).mono ?_
      rintro e w7 hbys
      obtain ⟨y7, rfl, hyl, hgy, hby⟩ := Bys.byt hbys
      have HRB := Lib.hid (HR.out.below hby)
      have HY := Lib.hid (hgy.lz (F := No) fun _ h => h.elim)
      have HYL := Lib.hid hyl
      clear hyl hgy hby HO HR hbys c14 cv
      go_wp2_with (at_builtin; refine wpList_push_ls ki_u8 rfl _ _ rfl (w.heap.size + 1) _ y7 HRB.out.gr rfl HY.out rfl (by rw [HYL.out]; have h1 := HRB.out.len; have h2 := HM.out; omega) HRB.out.size ?_; intro z7 v7 hz hg _ hgw; have HR := Lib.hid (HRB.out.push hz HYL.out HM.out hg hgw); clear hz hg hgw HRB HY HYL HM; have c15 := (HR.out.vr.cell 15).trans o.c15)
      have HO := Lib.hid (rwint_any (o.refs.l.length : Int) v7 (by omega) (by omega))
      have HM := Lib.hid (show (Pk.nInt (o.refs.l.length : Nat)).length ≤ 10 from Pk.nInt_len _ (by omega) (by omega))
      refine (HO.out).mono ?_
      rintro e w8 hbys
      obtain ⟨y8, rfl, hyl, hgy, hby⟩ := Bys.byt hbys
      have HRB := Lib.hid (HR.out.below hby)
      have HY := Lib.hid (hgy.lz (F := No) fun _ h => h.elim)
      have HYL := Lib.hid hyl
      clear hyl hgy hby HO HR hbys c15
      go_wp2_with (at_builtin; refine wpList_push_ls ki_u8 rfl _ _ rfl (w.heap.size + 1) _ y8 HRB.out.gr rfl HY.out rfl (by rw [HYL.out]; have h1 := HRB.out.len; have h2 := HM.out; omega) HRB.out.size ?_; intro z8 v8 hz hg _ hgw; have HR := Lib.hid (HRB.out.push hz HYL.out HM.out hg hgw); clear hz hg hgw HRB HY HYL HM; have c15 := (HR.out.vr.cell 15).trans o.c15)
      have HO := Lib.hid (rnums_any o.refs HR.out.lies.refs.no (by omega) HK.out.refs.2)
      have HM := Lib.hid (show (o.refs.l.flatMap Pk.num).length ≤ 200 from flat_up 10 20 _ nre fun y hy => Pk.num_len10 y (HK.out.refs.2 y hy))
      refine (HO.out).mono ?_
      rintro e w9 ⟨y9, rfl, hyl, hgy, hby⟩
      have HRB := Lib.hid (HR.out.below hby)
      have HY := Lib.hid (hgy.lz (F := No) fun _ h => h.elim)
      have HYL := Lib.hid hyl
      clear hyl hgy hby HO HR c15
      go_wp2_with (at_builtin; refine wpList_push_ls ki_u8 rfl _ _ rfl (w.heap.size + 1) _ y9 HRB.out.gr rfl HY.out rfl (by rw [HYL.out]; have h1 := HRB.out.len; have h2 := HM.out; omega) HRB.out.size ?_; intro z9 v9 hz hg _ hgw; have HR := Lib.hid (HRB.out.push hz HYL.out HM.out hg hgw); clear hz hg hgw HRB HY HYL HM; have c16 := (HR.out.vr.cell 16).trans o.c16; have c17 := (HR.out.vr.cell 17).trans o.c17; have c18 := (HR.out.vr.cell 18).trans o.c18)
      have HO := Lib.hid (rwname_any o.of_ v9 HK.out.of_.1.1 HK.out.of_.1.2 HK.out.of_.2.1.1 HK.out.of_.2.1.2 HK.out.of_.2.2)
      have HM := Lib.hid (show (Pk.nName o.of_).length ≤ 30 from nm_len _ HK.out.of_)
      refine (HO.out).mono ?_
      rintro e w10 hbys
      obtain ⟨y10, rfl, hyl, hgy, hby⟩ := Bys.byt hbys
      have HRB := Lib.hid (HR.out.below hby)
      have HY := Lib.hid (hgy.lz (F := No) fun _ h => h.elim)
      have HYL := Lib.hid hyl
      clear hyl hgy hby HO HR hbys c16 c17 c18
      go_wp2_with (at_builtin; refine wpList_push_ls ki_u8 rfl _ _ rfl (w.heap.size + 1) _ y10 HRB.out.gr rfl HY.out rfl (by rw [HYL.out]; have h1 := HRB.out.len; have h2 := HM.out; omega) HRB.out.size ?_; intro z10 v10 hz hg _ hgw; have HR := Lib.hid (HRB.out.push hz HYL.out HM.out hg hgw); clear hz hg hgw HRB HY HYL HM; have c19 := (HR.out.vr.cell 19).trans o.c19)
      have HO := Lib.hid (rwint_any (o.guards.l.length : Int) v10 (by omega) (by omega))
      have HM := Lib.hid (show (Pk.nInt (o.guards.l.length : Nat)).length ≤ 10 from Pk.nInt_len _ (by omega) (by omega))
      refine (HO.out).mono ?_
      rintro e w11 hbys
      obtain ⟨y11, rfl, hyl, hgy, hby⟩ := Bys.byt hbys
      have HRB := Lib.hid (HR.out.below hby)
      have HY := Lib.hid (hgy.lz (F := No) fun _ h => h.elim)
      have HYL := Lib.hid hyl
      clear hyl hgy hby HO HR hbys c19
      go_wp2_with (at_builtin; refine wpList_push_ls ki_u8 rfl _ _ rfl (w.heap.size + 1) _ y11 HRB.out.gr rfl HY.out rfl (by rw [HYL.out]; have h1 := HRB.out.len; have h2 := HM.out; omega) HRB.out.size ?_; intro z11 v11 hz hg _ hgw; have HR := Lib.hid (HRB.out.push hz HYL.out HM.out hg hgw); clear hz hg hgw HRB HY HYL HM; have c19 := (HR.out.vr.cell 19).trans o.c19)
      have HO := Lib.hid (rints_any o.guards HR.out.lies.guards.no (by omega) HK.out.guards.2)
      have HM := Lib.hid (show (o.guards.l.flatMap Pk.nInt).length ≤ 200 from flat_up 10 20 _ ngu fun y hy => Pk.nInt_len y (HK.out.guards.2 y hy).1 (HK.out.guards.2 y hy).2)
      refine (HO.out).mono ?_
      rintro e w12 ⟨y12, rfl, hyl, hgy, hby⟩
      have HRB := Lib.hid (HR.out.below hby)
      have HY := Lib.hid (hgy.lz (F := No) fun _ h => h.elim)
      have HYL := Lib.hid hyl
      clear hyl hgy hby HO HR c19
      go_wp2_with (at_builtin; refine wpList_push_ls ki_u8 rfl _ _ rfl (w.heap.size + 1) _ y12 HRB.out.gr rfl HY.out rfl (by rw [HYL.out]; have h1 := HRB.out.len; have h2 := HM.out; omega) HRB.out.size ?_; intro z12 v12 hz hg _ hgw; have HR := Lib.hid (HRB.out.push hz HYL.out HM.out hg hgw); clear hz hg hgw HRB HY HYL HM; have c20 := (HR.out.vr.cell 20).trans o.c20; have c21 := (HR.out.vr.cell 21).trans o.c21)
      have HI := Lib.hid (ints2 (o.need) (o.wait) (HK.out.need) (HK.out.wait))
      have HR' := Lib.hid (HR.out.alloc (.cells #[.int .i64 o.need, .int .i64 o.wait] 3))
      clear HR
      have HR := HR'
      clear HR'
      have HO := Lib.hid (rints_any (w := v12.alloc (.cells #[.int .i64 o.need, .int .i64 o.wait] 3)) ⟨[o.need, o.wait], some ⟨v12.heap.size, 0, none⟩, 2⟩ (lz_new (K := kInt) v12 [o.need, o.wait] #[.int .i64 o.need, .int .i64 o.wait] 2 rfl rfl) (by show 2 ≤ 1000; omega) HI.out.1)
      have HM := Lib.hid (show ([o.need, o.wait].flatMap Pk.nInt).length ≤ 20 from HI.out.2)
      refine (HO.out).mono ?_
      rintro e w13 ⟨y13, rfl, hyl, hgy, hby⟩
      have HRB := Lib.hid (HR.out.below hby)
      have HY := Lib.hid (hgy.lz (F := No) fun _ h => h.elim)
      have HYL := Lib.hid hyl
      clear hyl hgy hby HO HR c20 c21
      go_wp2_with (at_builtin; refine wpList_push_ls ki_u8 rfl _ _ rfl (w.heap.size + 1) _ y13 HRB.out.gr rfl HY.out rfl (by rw [HYL.out]; have h1 := HRB.out.len; have h2 := HM.out; omega) HRB.out.size ?_; intro z13 v13 hz hg _ hgw; have HR := Lib.hid (HRB.out.push hz HYL.out HM.out hg hgw); clear hz hg hgw HRB HY HYL HM; have c22 := (HR.out.vr.cell 22).trans o.c22)
      clear HI
      have HO := Lib.hid (rboxes_ref o.boxes HR.out.lies.boxes.no (by omega) HK.out.boxes.2)
      have HM := Lib.hid (show (wEach nBx o.boxes.l).length ≤ 810 from wEach_len (wr := nBx) 40 (fun b hb => bx_len b (HK.out.boxes.2 b hb)) 20 nbx (by omega))
      refine (HO.out).mono ?_
      rintro e w14 ⟨y14, rfl, hyl, hgy, hby⟩
      have HRB := Lib.hid (HR.out.below hby)
      have HY := Lib.hid (hgy.lz (F := No) fun _ h => h.elim)
      have HYL := Lib.hid hyl
      clear hyl hgy hby HO HR c22
      go_wp2_with (at_builtin; refine wpList_push_ls ki_u8 rfl _ _ rfl (w.heap.size + 1) _ y14 HRB.out.gr rfl HY.out rfl (by rw [HYL.out]; have h1 := HRB.out.len; have h2 := HM.out; omega) HRB.out.size ?_; intro z14 v14 hz hg _ hgw; have HR := Lib.hid (HRB.out.push hz HYL.out HM.out hg hgw); clear hz hg hgw HRB HY HYL HM; have c23 := (HR.out.vr.cell 23).trans o.c23)
      have HO := Lib.hid (rwnum_any o.pub v14 HK.out.pub)
      have HM := Lib.hid (show (Pk.num o.pub).length ≤ 10 from Pk.num_len10 _ HK.out.pub)
      refine (HO.out).mono ?_
      rintro e w15 hbys
      obtain ⟨y15, rfl, hyl, hgy, hby⟩ := Bys.byt hbys
      have HRB := Lib.hid (HR.out.below hby)
      have HY := Lib.hid (hgy.lz (F := No) fun _ h => h.elim)
      have HYL := Lib.hid hyl
      clear hyl hgy hby HO HR hbys c23
      go_wp2_with (at_builtin; refine wpList_push_ls ki_u8 rfl _ _ rfl (w.heap.size + 1) _ y15 HRB.out.gr rfl HY.out rfl (by rw [HYL.out]; have h1 := HRB.out.len; have h2 := HM.out; omega) HRB.out.size ?_; intro z15 v15 hz hg _ hgw; have HR := Lib.hid (HRB.out.push hz HYL.out HM.out hg hgw); clear hz hg hgw HRB HY HYL HM; have c24 := (HR.out.vr.cell 24).trans o.c24)
      have HO := Lib.hid (rwint_any (o.hist.l.length : Int) v15 (by omega) (by omega))
      have HM := Lib.hid (show (Pk.nInt (o.hist.l.length : Nat)).length ≤ 10 from Pk.nInt_len _ (by omega) (by omega))
      refine (HO.out).mono ?_
      rintro e w16 hbys
      obtain ⟨y16, rfl, hyl, hgy, hby⟩ := Bys.byt hbys
      have HRB := Lib.hid (HR.out.below hby)
      have HY := Lib.hid (hgy.lz (F := No) fun _ h => h.elim)
      have HYL := Lib.hid hyl
      clear hyl hgy hby HO HR hbys c24
      go_upto_block 4 with (at_builtin; refine wpList_push_ls ki_u8 rfl _ _ rfl (w.heap.size + 1) _ y16 HRB.out.gr rfl HY.out rfl (by rw [HYL.out]; have h1 := HRB.out.len; have h2 := HM.out; omega) HRB.out.size ?_; intro z16 v16 hz hg _ hgw; have HR := Lib.hid (HRB.out.push hz HYL.out HM.out hg hgw); clear hz hg hgw HRB HY HYL HM)
      go_cut [3] (fun v wx => ∃ z : Ls UInt8, v = z.v ∧ Rb w.heap.size w wx o z ((((((((((((((((([o.by_, o.seq, o.kind, o.at_, (o.past.l.length : Int)].flatMap Pk.nInt) ++ o.past.l.flatMap Pk.nName) ++ [o.dev, o.old, o.mem, o.role, (o.path.l.length : Int)].flatMap Pk.nInt) ++ o.path.l.flatMap (fun y => nNd y.er)) ++ Pk.nName o.epoch) ++ Pk.nInt o.n) ++ Pk.nText o.body.l) ++ Pk.nInt (o.refs.l.length : Nat)) ++ o.refs.l.flatMap Pk.num) ++ Pk.nName o.of_) ++ Pk.nInt (o.guards.l.length : Nat)) ++ o.guards.l.flatMap Pk.nInt) ++ [o.need, o.wait].flatMap Pk.nInt) ++ wEach nBx o.boxes.l) ++ Pk.num o.pub) ++ Pk.nInt (o.hist.l.length : Nat)) ++ o.hist.l.flatMap (fun y => nSd y.er)) 25550)
      case first =>
        have c24 := (HR.out.vr.cell 24).trans o.c24
        go_wp2
        clear c24
        go_loopw [3, 6] (fun ov iv wr => ∃ (k : Nat) (z : Ls UInt8), ov = z.v ∧ iv = .int .i64 (k : Int) ∧ k ≤ o.hist.l.length ∧ Rb w.heap.size w wr o z ((((((((((((((((([o.by_, o.seq, o.kind, o.at_, (o.past.l.length : Int)].flatMap Pk.nInt) ++ o.past.l.flatMap Pk.nName) ++ [o.dev, o.old, o.mem, o.role, (o.path.l.length : Int)].flatMap Pk.nInt) ++ o.path.l.flatMap (fun y => nNd y.er)) ++ Pk.nName o.epoch) ++ Pk.nInt o.n) ++ Pk.nText o.body.l) ++ Pk.nInt (o.refs.l.length : Nat)) ++ o.refs.l.flatMap Pk.num) ++ Pk.nName o.of_) ++ Pk.nInt (o.guards.l.length : Nat)) ++ o.guards.l.flatMap Pk.nInt) ++ [o.need, o.wait].flatMap Pk.nInt) ++ wEach nBx o.boxes.l) ++ Pk.num o.pub) ++ Pk.nInt (o.hist.l.length : Nat)) ++ (o.hist.l.take k).flatMap (fun y => nSd y.er)) (18750 + 340 * k)) (fun _ iv _ => o.hist.l.length - (intOf iv).toNat)
        case atStart => exact ⟨0, _, rfl, rfl, Nat.zero_le _, HR.out.le (by omega) (by simp)⟩
        case round =>
          obtain ⟨k, z, rfl, rfl, hk, hrb⟩ := hrel
          clear HR
          have HR := Lib.hid hrb
          clear hrb
          obtain ⟨wo, rfl⟩ : ∃ wo, wo = wr := ⟨_, rfl⟩
          have c24 := (HR.out.vr.cell 24).trans o.c24
          by_cases hlt : k < o.hist.l.length
          · obtain ⟨y, hy⟩ : ∃ y, o.hist.l[k]? = some y := ⟨_, List.getElem?_eq_getElem hlt⟩
            have HMY := Lib.hid (List.mem_of_getElem? hy)
            have HTK := Lib.hid (flat_snoc (fun y => nSd y.er) hy)
            have HIY := Lib.hid hy
            have q0_ : (0 : Int) ≤ (k : Int) := by omega
            have q1_ : (k : Int) < (o.hist.l.length : Int) := by omega
            have qd_ : decide ((k : Int) < (o.hist.l.length : Int)) = true := decide_eq_true (by omega)
            obtain ⟨b, off, hA, _, _, e0, e1, e2, e3⟩ := HR.out.lies.hist.sd hy
            rw [hA] at c24
            clear hA hy
            go_wp2_with fail
            have HO := Lib.hid (rwname_any y.nm wo (HK.out.hist.2 y.er (List.mem_map_of_mem HMY.out)).1.1.1 (HK.out.hist.2 y.er (List.mem_map_of_mem HMY.out)).1.1.2 (HK.out.hist.2 y.er (List.mem_map_of_mem HMY.out)).1.2.1.1 (HK.out.hist.2 y.er (List.mem_map_of_mem HMY.out)).1.2.1.2 (HK.out.hist.2 y.er (List.mem_map_of_mem HMY.out)).1.2.2)
            have HM := Lib.hid (show (Pk.nName y.nm).length ≤ 30 from nm_len _ (HK.out.hist.2 y.er (List.mem_map_of_mem HMY.out)).1)
            refine (HO.out).mono ?_
            rintro e w17 hbys
            obtain ⟨y17, rfl, hyl, hgy, hby⟩ := Bys.byt hbys
            have HRB := Lib.hid (HR.out.below hby)
            have HY := Lib.hid (hgy.lz (F := No) fun _ h => h.elim)
            have HYL := Lib.hid hyl
            clear hyl hgy hby HO HR hbys c24 e0 e1 e2 e3
            go_wp2_with (at_builtin; refine wpList_push_ls ki_u8 rfl _ _ rfl (w.heap.size + 1) _ y17 HRB.out.gr rfl HY.out rfl (by rw [HYL.out]; have h1 := HRB.out.len; have h2 := HM.out; omega) HRB.out.size ?_; intro z17 v17 hz hg _ hgw; have HR := Lib.hid (HRB.out.push hz HYL.out HM.out hg hgw); clear hz hg hgw HRB HY HYL HM; have c24 := (HR.out.vr.cell 24).trans o.c24; obtain ⟨b2, off2, hA2, _, _, e0, e1, e2, e3⟩ := HR.out.lies.hist.sd HIY.out; rw [hA2] at c24; clear hA2; have cv := cu_conv_rd y.body.A y.body.l.length y.body.c _ _ y.body.l rfl (HR.out.lies.histB y HMY.out).rd8)
            have HO := Lib.hid (rwtext_any ⟨y.body.l.toArray⟩ v17 (by show y.body.l.toArray.size ≤ 1000; have h := HT.out.histB y.er (List.mem_map_of_mem HMY.out); have h : y.body.l.length ≤ 300 := h; simp; omega))
            have HM := Lib.hid (show (Pk.nText y.body.l).length ≤ 310 from tx_len _ (HT.out.histB y.er (List.mem_map_of_mem HMY.out)))
            refine (HO.out).mono ?_
            rintro e w18 hbys
            obtain ⟨y18, rfl, hyl, hgy, hby⟩ := Bys.byt hbys
            have HRB := Lib.hid (HR.out.below hby)
            have HY := Lib.hid (hgy.lz (F := No) fun _ h => h.elim)
            have HYL := Lib.hid hyl
            clear hyl hgy hby HO HR hbys c24 e0 e1 e2 e3 cv
            go_wp2_with (at_builtin; refine wpList_push_ls ki_u8 rfl _ _ rfl (w.heap.size + 1) _ y18 HRB.out.gr rfl HY.out rfl (by rw [HYL.out]; have h1 := HRB.out.len; have h2 := HM.out; omega) HRB.out.size ?_; intro z18 v18 hz hg _ hgw; have HR := Lib.hid (HRB.out.push hz HYL.out HM.out hg hgw); clear hz hg hgw HRB HY HYL HM)
            have HRF := Lib.hid (HR.out.le (M' := 18750 + 340 * (k + 1)) (L' := (((((((((((((((([o.by_, o.seq, o.kind, o.at_, (o.past.l.length : Int)].flatMap Pk.nInt) ++ o.past.l.flatMap Pk.nName) ++ [o.dev, o.old, o.mem, o.role, (o.path.l.length : Int)].flatMap Pk.nInt) ++ o.path.l.flatMap (fun y => nNd y.er)) ++ Pk.nName o.epoch) ++ Pk.nInt o.n) ++ Pk.nText o.body.l) ++ Pk.nInt (o.refs.l.length : Nat)) ++ o.refs.l.flatMap Pk.num) ++ Pk.nName o.of_) ++ Pk.nInt (o.guards.l.length : Nat)) ++ o.guards.l.flatMap Pk.nInt) ++ [o.need, o.wait].flatMap Pk.nInt) ++ wEach nBx o.boxes.l) ++ Pk.num o.pub) ++ Pk.nInt (o.hist.l.length : Nat)) ++ (o.hist.l.take (k + 1)).flatMap (fun y => nSd y.er)) (by omega) (by rw [HTK.out, List.append_assoc, List.append_assoc]; rfl))
            go_roundw
            case rel => exact ⟨k + 1, _, rfl, by go_num, hlt, HRF.out⟩
            case measure => simp [intOf]; omega
          · have q1_ : ¬ (k : Int) < (o.hist.l.length : Int) := by omega
            have qd_ : decide ((k : Int) < (o.hist.l.length : Int)) = false := decide_eq_false (by omega)
            go_wp2
            go_meet
            exact ⟨z, rfl, HR.out.le (by omega) (by rw [flat_whole _ (by omega)])⟩
      case rest =>
        obtain ⟨z, rfl, hrb⟩ := hcut
        clear HR
        have HR := Lib.hid hrb
        clear hrb
        obtain ⟨wq3, rfl⟩ : ∃ wq, wq = wc := ⟨_, rfl⟩
        go_wp2
        go_ret
        refine ⟨z, rfl, ?_, HR.out.gr.base (Nat.le_succ _), HR.out.bel⟩
        rw [HR.out.eq]
        unfold con wEach LOp.er
        simp only [List.flatMap_map, List.length_map, List.flatMap_cons, List.flatMap_nil, List.append_assoc, List.append_nil]
end Ot
end Go.Proofs.YtkicjjcangkneaaGreatDoor

/-
  The reference's Put, and names: package op's ID and the reference's. For operations of few items, with short texts.
-/
namespace Go.Proofs.YtkicjjcangkneaaGreatDoor
open Go.RowKit
attribute [local go_sem ↓] Go.wp_at_zero Go.wp_at_succ
set_option maxRecDepth 100000
set_option linter.unusedSimpArgs false
namespace Ot
theorem run_load_op {o : LOp} {w : World} {V : Nat} (f : Operand → Value) {op : Oper} (x : Operand) (ho : op.op = .load 35 x) (hx : f x = .pointer (some ⟨V, 0, none⟩)) (hV : Vr w V o) : (execOp f op).run Tryz.prog w = .ok (.value o.v) w := by
  have hl := run_loadVar_row (P := Tryz.prog) w V 35 35 o.cells (0, 0) _ hV op_under rfl (by rw [o.size]; exact op_info)
  unfold execOp
  simp only [ho, hx, Instr.loadAt, Instr.sureAddr, Sem.run_bind, Sem.run_pure, Result.andThen_ok, hl, LOp.v]
def sumOf (o : Er) : Nat := Hsh.bytes [111, 112] (con o)
theorem con_len {o : Er} (h : Tiny o) : (con o).length ≤ 30000 := by
  have := put_len h
  unfold put at this
  rw [List.length_append] at this
  omega

set_option maxHeartbeats 2000000 in
theorem id_any {w : World} (o : LOp) (hx : Lies No w o) (ht : Tiny o.er) :
    Calls Tryz.prog 19 #[o.v] w fun e w' => e = .returned (.agg #[.int .i64 o.by_, .int .i64 o.seq, .int .u64 (sumOf o.er : Nat)]) ∧ Below w.heap.size w w' := by
  obtain ⟨cs, hcs⟩ : ∃ cs, cs = o.cells := ⟨_, rfl⟩
  have hV : Vr ((w.alloc (.cells cs 35)).alloc (.cells #[.int .i64 0, .int .i64 0, .int .u64 0] 27)) w.heap.size o := by
    unfold Vr
    rw [← hcs]
    exact blk_alloc (blk_new w 35 cs) _
  have es : (w.alloc (.cells cs 35)).heap.size = w.heap.size + 1 := by simp
  have hR : Blk ((w.alloc (.cells cs 35)).alloc (.cells #[.int .i64 0, .int .i64 0, .int .u64 0] 27)) (w.heap.size + 1) 27 #[.int .i64 0, .int .i64 0, .int .u64 0] := by rw [← es]; exact blk_new _ _ _
  have hb : Below w.heap.size w ((w.alloc (.cells cs 35)).alloc (.cells #[.int .i64 0, .int .i64 0, .int .u64 0] 27)) := ((Below.refl _ w).alloc (Nat.le_refl _) _).alloc (by simp) _
  have hL := (hx.alloc (.cells cs 35)).alloc (.cells #[.int .i64 0, .int .i64 0, .int .u64 0] 27)
  obtain ⟨w0, hw0⟩ : ∃ w0, w0 = (w.alloc (.cells cs 35)).alloc (.cells #[.int .i64 0, .int .i64 0, .int .u64 0] 27) := ⟨_, rfl⟩
  rw [← hw0] at hV hR hb hL
  have HV0 := Lib.hid (show Vr w0.drew w.heap.size o from hV)
  have HR0 := Lib.hid (show Blk w0.drew (w.heap.size + 1) 27 _ from hR)
  have HB0 := Lib.hid (show Below w.heap.size w w0.drew from hb.trans (below_drewN w0 1 w.heap.size))
  have HC := Lib.hid (content_any (w := w0.drew) o (hL.bf (Bf.drew w0)) ht.small (Nat.le_trans (con_len ht) (by omega)))
  have HT := Lib.hid ht
  have HW0 := Lib.hid hw0
  show Calls _ _ #[.agg o.cells] w _
  rw [← hcs]
  clear hV es hR hb hL hx ht hcs hw0
  go_enter Tryz.func19, Tryz.ntmps19
  go_wp2
  rw [← HW0.out]
  refine wp_region_held_drew (S := (fun w' : World => Vr w' w.heap.size o)) (by kernel_rfl) HV0.out (fun hHeld => ?_)
  try simp only [Act.put, List.getElem_toArray, List.getElem_cons_succ, List.getElem_cons_zero, List.setIfInBounds_toArray, List.set_cons_zero, List.set_cons_succ]
  refine wpAnyH_take (i := 0) (v := ?_) rfl (by kernel_rfl) (by kernel_rfl) (by kernel_rfl) (fun _ _ _ h => h) (Or.inl ⟨by rfl, ?_⟩) (by assumption) ?_
  rotate_left
  · (intro w hSw; (try dsimp only at hSw); go_simp; try (with_reducible rfl))
  try simp only [Act.put, List.getElem_toArray, List.getElem_cons_zero, List.setIfInBounds_toArray, List.set_cons_zero, List.set_cons_succ]
  refine wpAnyH_take (i := 1) (v := ?_) rfl (by kernel_rfl) (by kernel_rfl) (by kernel_rfl) (fun _ _ _ h => h) (Or.inl ⟨by rfl, ?_⟩) (by assumption) ?_
  rotate_left
  · (intro w hSw; (try dsimp only at hSw); have k := (Blk.cell hSw 0).trans (LOp.c0 o); go_simp; try (with_reducible rfl))
  try simp only [Act.put, List.getElem_toArray, List.getElem_cons_succ, List.getElem_cons_zero, List.setIfInBounds_toArray, List.set_cons_zero, List.set_cons_succ]
  refine wpAnyH_take (i := 2) (v := ?_) rfl (by kernel_rfl) (by kernel_rfl) (by kernel_rfl) (fun _ _ _ h => h) (Or.inl ⟨by rfl, ?_⟩) (by assumption) ?_
  rotate_left
  · (intro w hSw; (try dsimp only at hSw); go_simp; try (with_reducible rfl))
  try simp only [Act.put, List.getElem_toArray, List.getElem_cons_succ, List.getElem_cons_zero, List.setIfInBounds_toArray, List.set_cons_zero, List.set_cons_succ]
  refine wpAnyH_take (i := 3) (v := ?_) rfl (by kernel_rfl) (by kernel_rfl) (by kernel_rfl) (fun _ _ _ h => h) (Or.inl ⟨by rfl, ?_⟩) (by assumption) ?_
  rotate_left
  · (intro w hSw; (try dsimp only at hSw); have k := (Blk.cell hSw 1).trans (LOp.c1 o); go_simp; try (with_reducible rfl))
  try simp only [Act.put, List.getElem_toArray, List.getElem_cons_succ, List.getElem_cons_zero, List.setIfInBounds_toArray, List.set_cons_zero, List.set_cons_succ]
  refine wpAnyH_take (i := 4) (v := ?_) rfl (by kernel_rfl) (by kernel_rfl) (by kernel_rfl) (fun _ _ _ h => h) (Or.inl ⟨by rfl, ?_⟩) (by assumption) ?_
  rotate_left
  · (intro w hSw; (try dsimp only at hSw); refine run_load_op _ (.tmp 1) ?_ ?_ hSw <;> rfl)
  try simp only [Act.put, List.getElem_toArray, List.getElem_cons_succ, List.getElem_cons_zero, List.setIfInBounds_toArray, List.set_cons_zero, List.set_cons_succ]
  refine wpAnyH_ready (rs := [5]) (by kernel_rfl) (by simp) ?_
  refine AllReadyH.cons rfl (fun K hK => ?_) AllReadyH.nil
  go_simp
  refine (HC.out).mono ?_
  rintro e w1 ⟨y, rfl, hyl, hgy, hb1⟩
  have HV1 := Lib.hid (HV0.out.below hb1 (Blk.lt HV0.out))
  have HR1 := Lib.hid (HR0.out.below hb1 HR0.out.lt)
  have HB1 := Lib.hid (HB0.out.trans (hb1.mono HB0.out.size))
  have HYL := Lib.hid hyl
  have hln : y.l.length ≤ 30000 := by rw [hyl]; exact con_len HT.out
  have hlz := hgy.lz (F := No) fun _ h => h.elim
  have HH := Lib.hid (Go.Proofs.YtkicjjcangkneaaGreatDoor.bytes_any ⟨#[111, 112]⟩ y.l y.A y.l.length y.c w1 rfl hlz.cap (by omega) (by decide) hlz.rd8)
  clear hyl hgy hb1 hln hlz HC
  try go_simp
  refine hK.out _ _ HV1.out (fun hHeld1 => ?_)
  clear hK K
  try simp only [Act.put, List.getElem_toArray, List.getElem_cons_succ, List.getElem_cons_zero, List.setIfInBounds_toArray, List.set_cons_zero, List.set_cons_succ]
  refine wpAnyH_ready (rs := [6]) (by kernel_rfl) (by simp) ?_
  refine AllReadyH.cons rfl (fun K hK => ?_) AllReadyH.nil
  go_simp
  refine (HH.out).mono ?_
  rintro e w2 ⟨rfl, hb2⟩
  have HV2 := Lib.hid (HV1.out.below hb2 (Blk.lt HV1.out))
  have HR2 := Lib.hid (HR1.out.below hb2 HR1.out.lt)
  have HB2 := Lib.hid (HB1.out.trans (hb2.mono HB1.out.size))
  clear hb2 HH
  try go_simp
  refine hK.out _ _ HV2.out (fun hHeld1 => ?_)
  clear hK K
  try simp only [Act.put, List.getElem_toArray, List.getElem_cons_succ, List.getElem_cons_zero, List.setIfInBounds_toArray, List.set_cons_zero, List.set_cons_succ]
  refine wpAnyH_take (i := 7) (v := ?_) rfl (by kernel_rfl) (by kernel_rfl) (by kernel_rfl) (fun _ _ _ h => h) (Or.inl ⟨by rfl, ?_⟩) (by assumption) ?_
  rotate_left
  · (intro w hSw; (try dsimp only at hSw); go_simp; try (with_reducible rfl))
  try simp only [Act.put, List.getElem_toArray, List.getElem_cons_succ, List.getElem_cons_zero, List.setIfInBounds_toArray, List.set_cons_zero, List.set_cons_succ]
  refine wpAnyH_ready (rs := [8]) (by kernel_rfl) (by simp) ?_
  refine AllReadyH.cons rfl (fun K hK => ?_) AllReadyH.nil
  rw [if_pos (by rfl)]
  refine wp_store_row 27 (.tmp 2) (.tmp 10) rfl (w.heap.size + 1) #[.int .i64 o.by_, .int .i64 o.seq, .int .u64 (Hsh.bytes [111, 112] y.l : Nat)] rfl rfl 27 _ HR2.out idn_info rfl (by simp [Value.oneCell']) ?_
  refine hK.out _ _ (HV2.out.bf (F := fun k => k = w.heap.size + 1) (Bf.setRow w2 rfl) (by omega)) (fun hHeld1 => ?_)
  clear hK K
  try simp only [Act.put, List.getElem_toArray, List.getElem_cons_succ, List.getElem_cons_zero, List.setIfInBounds_toArray, List.set_cons_zero, List.set_cons_succ]
  refine wpAnyH_done (by kernel_rfl) ?_ _
  go_wp2
  refine bodyPost_ret (v := .agg #[.int .i64 o.by_, .int .i64 o.seq, .int .u64 (Hsh.bytes [111, 112] y.l : Nat)]) (results_cell_row rfl _ _ (w.heap.size + 1) 27 _ (0, 0) _ rfl (blk_setRow HR2.out _) idn_under rfl idn_info) rfl ?_
  refine ⟨by rw [HYL.out]; rfl, HB2.out.grown (grown_setRow w2 _ _) HB2.out.size fun g eg => by injection eg with eg; omega⟩

set_option maxHeartbeats 2000000 in
theorem rid_any {w : World} (o : LOp) (hx : Lies No w o) (ht : Tiny o.er) :
    Calls Tryz.prog 20 #[o.v] w fun e w' => e = .returned (.agg #[.int .i64 o.by_, .int .i64 o.seq, .int .u64 (sumOf o.er : Nat)]) ∧ Below w.heap.size w w' := by
  obtain ⟨cs, hcs⟩ : ∃ cs, cs = o.cells := ⟨_, rfl⟩
  have hV : Vr ((w.alloc (.cells cs 35)).alloc (.cells #[.int .i64 0, .int .i64 0, .int .u64 0] 27)) w.heap.size o := by
    unfold Vr
    rw [← hcs]
    exact blk_alloc (blk_new w 35 cs) _
  have es : (w.alloc (.cells cs 35)).heap.size = w.heap.size + 1 := by simp
  have hR : Blk ((w.alloc (.cells cs 35)).alloc (.cells #[.int .i64 0, .int .i64 0, .int .u64 0] 27)) (w.heap.size + 1) 27 #[.int .i64 0, .int .i64 0, .int .u64 0] := by rw [← es]; exact blk_new _ _ _
  have hb : Below w.heap.size w ((w.alloc (.cells cs 35)).alloc (.cells #[.int .i64 0, .int .i64 0, .int .u64 0] 27)) := ((Below.refl _ w).alloc (Nat.le_refl _) _).alloc (by simp) _
  have hL := (hx.alloc (.cells cs 35)).alloc (.cells #[.int .i64 0, .int .i64 0, .int .u64 0] 27)
  obtain ⟨w0, hw0⟩ : ∃ w0, w0 = (w.alloc (.cells cs 35)).alloc (.cells #[.int .i64 0, .int .i64 0, .int .u64 0] 27) := ⟨_, rfl⟩
  rw [← hw0] at hV hR hb hL
  have HV0 := Lib.hid (show Vr w0.drew w.heap.size o from hV)
  have HR0 := Lib.hid (show Blk w0.drew (w.heap.size + 1) 27 _ from hR)
  have HB0 := Lib.hid (show Below w.heap.size w w0.drew from hb.trans (below_drewN w0 1 w.heap.size))
  have HC := Lib.hid (rcon_any (w := w0.drew) o (hL.bf (Bf.drew w0)) ht)
  have HT := Lib.hid ht
  have HW0 := Lib.hid hw0
  show Calls _ _ #[.agg o.cells] w _
  rw [← hcs]
  clear hV es hR hb hL hx ht hcs hw0
  go_enter Tryz.func20, Tryz.ntmps20
  go_wp2
  rw [← HW0.out]
  refine wp_region_held_drew (S := (fun w' : World => Vr w' w.heap.size o)) (by kernel_rfl) HV0.out (fun hHeld => ?_)
  try simp only [Act.put, List.getElem_toArray, List.getElem_cons_succ, List.getElem_cons_zero, List.setIfInBounds_toArray, List.set_cons_zero, List.set_cons_succ]
  refine wpAnyH_take (i := 0) (v := ?_) rfl (by kernel_rfl) (by kernel_rfl) (by kernel_rfl) (fun _ _ _ h => h) (Or.inl ⟨by rfl, ?_⟩) (by assumption) ?_
  rotate_left
  · (intro w hSw; (try dsimp only at hSw); go_simp; try (with_reducible rfl))
  try simp only [Act.put, List.getElem_toArray, List.getElem_cons_zero, List.setIfInBounds_toArray, List.set_cons_zero, List.set_cons_succ]
  refine wpAnyH_take (i := 1) (v := ?_) rfl (by kernel_rfl) (by kernel_rfl) (by kernel_rfl) (fun _ _ _ h => h) (Or.inl ⟨by rfl, ?_⟩) (by assumption) ?_
  rotate_left
  · (intro w hSw; (try dsimp only at hSw); have k := (Blk.cell hSw 0).trans (LOp.c0 o); go_simp; try (with_reducible rfl))
  try simp only [Act.put, List.getElem_toArray, List.getElem_cons_succ, List.getElem_cons_zero, List.setIfInBounds_toArray, List.set_cons_zero, List.set_cons_succ]
  refine wpAnyH_take (i := 2) (v := ?_) rfl (by kernel_rfl) (by kernel_rfl) (by kernel_rfl) (fun _ _ _ h => h) (Or.inl ⟨by rfl, ?_⟩) (by assumption) ?_
  rotate_left
  · (intro w hSw; (try dsimp only at hSw); go_simp; try (with_reducible rfl))
  try simp only [Act.put, List.getElem_toArray, List.getElem_cons_succ, List.getElem_cons_zero, List.setIfInBounds_toArray, List.set_cons_zero, List.set_cons_succ]
  refine wpAnyH_take (i := 3) (v := ?_) rfl (by kernel_rfl) (by kernel_rfl) (by kernel_rfl) (fun _ _ _ h => h) (Or.inl ⟨by rfl, ?_⟩) (by assumption) ?_
  rotate_left
  · (intro w hSw; (try dsimp only at hSw); have k := (Blk.cell hSw 1).trans (LOp.c1 o); go_simp; try (with_reducible rfl))
  try simp only [Act.put, List.getElem_toArray, List.getElem_cons_succ, List.getElem_cons_zero, List.setIfInBounds_toArray, List.set_cons_zero, List.set_cons_succ]
  refine wpAnyH_take (i := 4) (v := ?_) rfl (by kernel_rfl) (by kernel_rfl) (by kernel_rfl) (fun _ _ _ h => h) (Or.inl ⟨by rfl, ?_⟩) (by assumption) ?_
  rotate_left
  · (intro w hSw; (try dsimp only at hSw); refine run_load_op _ (.tmp 1) ?_ ?_ hSw <;> rfl)
  try simp only [Act.put, List.getElem_toArray, List.getElem_cons_succ, List.getElem_cons_zero, List.setIfInBounds_toArray, List.set_cons_zero, List.set_cons_succ]
  refine wpAnyH_ready (rs := [5]) (by kernel_rfl) (by simp) ?_
  refine AllReadyH.cons rfl (fun K hK => ?_) AllReadyH.nil
  go_simp
  refine (HC.out).mono ?_
  rintro e w1 ⟨y, rfl, hyl, hgy, hb1⟩
  have HV1 := Lib.hid (HV0.out.below hb1 (Blk.lt HV0.out))
  have HR1 := Lib.hid (HR0.out.below hb1 HR0.out.lt)
  have HB1 := Lib.hid (HB0.out.trans (hb1.mono HB0.out.size))
  have HYL := Lib.hid hyl
  have hln : y.l.length ≤ 30000 := by rw [hyl]; exact con_len HT.out
  have hlz := hgy.lz (F := No) fun _ h => h.elim
  have HH := Lib.hid (Go.Proofs.YtkicjjcangkneaaGreatDoor.rbytes_any ⟨#[111, 112]⟩ y.l y.A y.l.length y.c w1 (by decide) rfl (by omega) hlz.rd8)
  clear hyl hgy hb1 hln hlz HC
  try go_simp
  refine hK.out _ _ HV1.out (fun hHeld1 => ?_)
  clear hK K
  try simp only [Act.put, List.getElem_toArray, List.getElem_cons_succ, List.getElem_cons_zero, List.setIfInBounds_toArray, List.set_cons_zero, List.set_cons_succ]
  refine wpAnyH_ready (rs := [6]) (by kernel_rfl) (by simp) ?_
  refine AllReadyH.cons rfl (fun K hK => ?_) AllReadyH.nil
  go_simp
  refine (HH.out).mono ?_
  rintro e w2 ⟨rfl, hb2⟩
  have HV2 := Lib.hid (HV1.out.below hb2 (Blk.lt HV1.out))
  have HR2 := Lib.hid (HR1.out.below hb2 HR1.out.lt)
  have HB2 := Lib.hid (HB1.out.trans (hb2.mono HB1.out.size))
  clear hb2 HH
  try go_simp
  refine hK.out _ _ HV2.out (fun hHeld1 => ?_)
  clear hK K
  try simp only [Act.put, List.getElem_toArray, List.getElem_cons_succ, List.getElem_cons_zero, List.setIfInBounds_toArray, List.set_cons_zero, List.set_cons_succ]
  refine wpAnyH_take (i := 7) (v := ?_) rfl (by kernel_rfl) (by kernel_rfl) (by kernel_rfl) (fun _ _ _ h => h) (Or.inl ⟨by rfl, ?_⟩) (by assumption) ?_
  rotate_left
  · (intro w hSw; (try dsimp only at hSw); go_simp; try (with_reducible rfl))
  try simp only [Act.put, List.getElem_toArray, List.getElem_cons_succ, List.getElem_cons_zero, List.setIfInBounds_toArray, List.set_cons_zero, List.set_cons_succ]
  refine wpAnyH_ready (rs := [8]) (by kernel_rfl) (by simp) ?_
  refine AllReadyH.cons rfl (fun K hK => ?_) AllReadyH.nil
  rw [if_pos (by rfl)]
  refine wp_store_row 27 (.tmp 2) (.tmp 10) rfl (w.heap.size + 1) #[.int .i64 o.by_, .int .i64 o.seq, .int .u64 (Hsh.bytes [111, 112] y.l : Nat)] rfl rfl 27 _ HR2.out idn_info rfl (by simp [Value.oneCell']) ?_
  refine hK.out _ _ (HV2.out.bf (F := fun k => k = w.heap.size + 1) (Bf.setRow w2 rfl) (by omega)) (fun hHeld1 => ?_)
  clear hK K
  try simp only [Act.put, List.getElem_toArray, List.getElem_cons_succ, List.getElem_cons_zero, List.setIfInBounds_toArray, List.set_cons_zero, List.set_cons_succ]
  refine wpAnyH_done (by kernel_rfl) ?_ _
  go_wp2
  refine bodyPost_ret (v := .agg #[.int .i64 o.by_, .int .i64 o.seq, .int .u64 (Hsh.bytes [111, 112] y.l : Nat)]) (results_cell_row rfl _ _ (w.heap.size + 1) 27 _ (0, 0) _ rfl (blk_setRow HR2.out _) idn_under rfl idn_info) rfl ?_
  refine ⟨by rw [HYL.out]; rfl, HB2.out.grown (grown_setRow w2 _ _) HB2.out.size fun g eg => by injection eg with eg; omega⟩

set_option maxHeartbeats 4000000 in
theorem rput_any {w : World} (o : LOp) (hx : Lies No w o) (ht : Tiny o.er) :
    Calls Tryz.prog 18 #[o.v] w fun e w' => Byt w w' e (put o.er) := by
  obtain ⟨cs, hcs⟩ : ∃ cs, cs = o.cells := ⟨_, rfl⟩
  have hV : Vr (w.alloc (.cells cs 35)) w.heap.size o := by
    unfold Vr
    rw [← hcs]
    exact blk_new w 35 cs
  have hb : Below w.heap.size w (w.alloc (.cells cs 35)) := (Below.refl _ w).alloc (Nat.le_refl _) _
  have hL := hx.alloc (.cells cs 35)
  obtain ⟨w0, hw0⟩ : ∃ w0, w0 = w.alloc (.cells cs 35) := ⟨_, rfl⟩
  rw [← hw0] at hV hb hL
  have HV0 := Lib.hid (show Vr w0.drew w.heap.size o from hV)
  have HB0 := Lib.hid (show Below w.heap.size w w0.drew from hb.trans (below_drewN w0 1 w.heap.size))
  have HC := Lib.hid (rcon_any (w := w0.drew) o (hL.bf (Bf.drew w0)) ht)
  have HCA := Lib.hid (rcon_any (w := w0.drew.alloc (.cells #[.int .u64 (o.r : Int), .int .u64 (o.s : Int)] 25)) o ((hL.bf (Bf.drew w0)).alloc _) ht)
  have HN2 := Lib.hid (show ∀ y ∈ [o.r, o.s], u64 y from by intro y hy; simp at hy; rcases hy with rfl | rfl; exact ht.ok.r; exact ht.ok.s)
  have HN20 := Lib.hid (show ([o.r, o.s].flatMap Pk.num).length ≤ 20 ∧ 0 < ([o.r, o.s].flatMap Pk.num).length from by
    have h1 := Pk.num_len10 o.r ht.ok.r
    have h2 := Pk.num_len10 o.s ht.ok.s
    have h3 := Pk.num_pos o.r
    simp only [List.flatMap_cons, List.flatMap_nil, List.append_nil, List.length_append]
    omega)
  have HT := Lib.hid ht
  have HW0 := Lib.hid hw0
  show Calls _ _ #[.agg o.cells] w _
  rw [← hcs]
  clear hV hb hL hx ht hcs hw0
  go_enter Tryz.func18, Tryz.ntmps18
  go_wp2
  rw [← HW0.out]
  refine wp_region_held_drew (S := (fun w' : World => Vr w' w.heap.size o)) (by kernel_rfl) HV0.out (fun hHeld => ?_)
  try simp only [Act.put, List.getElem_toArray, List.getElem_cons_succ, List.getElem_cons_zero, List.setIfInBounds_toArray, List.set_cons_zero, List.set_cons_succ]
  refine wpAnyH_take (i := 0) (v := ?_) rfl (by kernel_rfl) (by kernel_rfl) (by kernel_rfl) (fun _ _ _ h => h) (Or.inl ⟨by rfl, ?_⟩) (by assumption) ?_
  rotate_left
  · (intro w hSw; (try dsimp only at hSw); refine run_load_op _ (.tmp 1) ?_ ?_ hSw <;> rfl)
  try simp only [Act.put, List.getElem_toArray, List.getElem_cons_zero, List.setIfInBounds_toArray, List.set_cons_zero, List.set_cons_succ]
  refine wpAnyH_take (i := 2) (v := ?_) rfl (by kernel_rfl) (by kernel_rfl) (by kernel_rfl) (fun _ _ _ h => h) (Or.inl ⟨by rfl, ?_⟩) (by assumption) ?_
  rotate_left
  · (intro w hSw; (try dsimp only at hSw); go_simp; try (with_reducible rfl))
  try simp only [Act.put, List.getElem_toArray, List.getElem_cons_succ, List.getElem_cons_zero, List.setIfInBounds_toArray, List.set_cons_zero, List.set_cons_succ]
  refine wpAnyH_take (i := 3) (v := ?_) rfl (by kernel_rfl) (by kernel_rfl) (by kernel_rfl) (fun _ _ _ h => h) (Or.inl ⟨by rfl, ?_⟩) (by assumption) ?_
  rotate_left
  · (intro w hSw; (try dsimp only at hSw); go_simp; try (with_reducible rfl))
  try simp only [Act.put, List.getElem_toArray, List.getElem_cons_succ, List.getElem_cons_zero, List.setIfInBounds_toArray, List.set_cons_zero, List.set_cons_succ]
  refine wpAnyH_take (i := 4) (v := ?_) rfl (by kernel_rfl) (by kernel_rfl) (by kernel_rfl) (fun _ _ _ h => h) (Or.inl ⟨by rfl, ?_⟩) (by assumption) ?_
  rotate_left
  · (intro w hSw; (try dsimp only at hSw); have k := (Blk.cell hSw 25).trans (LOp.c25 o); go_simp; try (with_reducible rfl))
  try simp only [Act.put, List.getElem_toArray, List.getElem_cons_succ, List.getElem_cons_zero, List.setIfInBounds_toArray, List.set_cons_zero, List.set_cons_succ]
  refine wpAnyH_take (i := 5) (v := ?_) rfl (by kernel_rfl) (by kernel_rfl) (by kernel_rfl) (fun _ _ _ h => h) (Or.inl ⟨by rfl, ?_⟩) (by assumption) ?_
  rotate_left
  · (intro w hSw; (try dsimp only at hSw); go_simp; try (with_reducible rfl))
  try simp only [Act.put, List.getElem_toArray, List.getElem_cons_succ, List.getElem_cons_zero, List.setIfInBounds_toArray, List.set_cons_zero, List.set_cons_succ]
  refine wpAnyH_take (i := 6) (v := ?_) rfl (by kernel_rfl) (by kernel_rfl) (by kernel_rfl) (fun _ _ _ h => h) (Or.inl ⟨by rfl, ?_⟩) (by assumption) ?_
  rotate_left
  · (intro w hSw; (try dsimp only at hSw); go_simp; try (with_reducible rfl))
  try simp only [Act.put, List.getElem_toArray, List.getElem_cons_succ, List.getElem_cons_zero, List.setIfInBounds_toArray, List.set_cons_zero, List.set_cons_succ]
  refine wpAnyH_take (i := 7) (v := ?_) rfl (by kernel_rfl) (by kernel_rfl) (by kernel_rfl) (fun _ _ _ h => h) (Or.inl ⟨by rfl, ?_⟩) (by assumption) ?_
  rotate_left
  · (intro w hSw; (try dsimp only at hSw); have k := (Blk.cell hSw 26).trans (LOp.c26 o); go_simp; try (with_reducible rfl))
  try simp only [Act.put, List.getElem_toArray, List.getElem_cons_succ, List.getElem_cons_zero, List.setIfInBounds_toArray, List.set_cons_zero, List.set_cons_succ]
  refine wpAnyH_ready (rs := [1, 8]) (by kernel_rfl) (by simp) ?_
  refine AllReadyH.cons rfl (fun K hK => ?_) (AllReadyH.cons rfl (fun K hK => ?_) AllReadyH.nil)
  · go_simp
    refine (HC.out).mono ?_
    rintro e w1 ⟨z1, rfl, hzl, hgz, hb1⟩
    have HZ := Lib.hid hzl
    have HV1 := Lib.hid (HV0.out.below hb1 (Blk.lt HV0.out))
    have HG1 := Lib.hid (hgz.base (Blk.lt HV0.out))
    have HB1 := Lib.hid (HB0.out.trans (hb1.mono HB0.out.size))
    clear hzl hgz hb1 HC HCA
    try go_simp
    refine hK.out _ _ HV1.out (fun hHeld1 => ?_)
    clear hK K
    try simp only [Act.put, List.getElem_toArray, List.getElem_cons_succ, List.getElem_cons_zero, List.setIfInBounds_toArray, List.set_cons_zero, List.set_cons_succ]
    refine wpAnyH_ready (rs := [8]) (by kernel_rfl) (by simp) ?_
    refine AllReadyH.cons rfl (fun K hK => ?_) AllReadyH.nil
    go_simp
    have HNU := Lib.hid (rnums_any (w := w1.alloc (.cells #[.int .u64 (o.r : Int), .int .u64 (o.s : Int)] 25)) ⟨[o.r, o.s], some ⟨w1.heap.size, 0, none⟩, 2⟩ (lz_new (K := kU64) w1 [o.r, o.s] #[.int .u64 (o.r : Int), .int .u64 (o.s : Int)] 2 rfl rfl) (by show 2 ≤ 1000; omega) HN2.out)
    have HV2 := Lib.hid (show Vr (w1.alloc (.cells #[.int .u64 (o.r : Int), .int .u64 (o.s : Int)] 25)) w.heap.size o from blk_alloc HV1.out _)
    have HG2 := Lib.hid (HG1.out.below ((Below.refl _ w1).alloc (Nat.le_refl _) (.cells #[.int .u64 (o.r : Int), .int .u64 (o.s : Int)] 25)))
    have HB2 := Lib.hid (HB1.out.alloc HB1.out.size (.cells #[.int .u64 (o.r : Int), .int .u64 (o.s : Int)] 25))
    clear HV1 HG1 HB1
    refine hK.out _ _ HV2.out (fun hHeld1 => ?_)
    clear hK K
    try simp only [Act.put, List.getElem_toArray, List.getElem_cons_succ, List.getElem_cons_zero, List.setIfInBounds_toArray, List.set_cons_zero, List.set_cons_succ]
    refine wpAnyH_ready (rs := [9]) (by kernel_rfl) (by simp) ?_
    refine AllReadyH.cons rfl (fun K hK => ?_) AllReadyH.nil
    go_simp
    refine (HNU.out).mono ?_
    rintro e w3 ⟨y, rfl, hyl, hgy, hb3⟩
    have HYL := Lib.hid hyl
    have HV3 := Lib.hid (HV2.out.below hb3 (Blk.lt HV2.out))
    have HG3 := Lib.hid (HG2.out.below hb3)
    have HB3 := Lib.hid (HB2.out.trans (hb3.mono HB2.out.size))
    have HSRC := Lib.hid ((hgy.lz (F := No) fun _ h => h.elim).rd)
    clear hyl hgy hb3 HNU HV2 HG2 HB2
    try go_simp
    refine hK.out _ _ HV3.out (fun hHeld1 => ?_)
    clear hK K
    try simp only [Act.put, List.getElem_toArray, List.getElem_cons_succ, List.getElem_cons_zero, List.setIfInBounds_toArray, List.set_cons_zero, List.set_cons_succ]
    have hy20 : y.l.length ≤ 20 := by rw [HYL.out]; exact HN20.out.1
    have hy0 : 0 < y.l.length := by rw [HYL.out]; exact HN20.out.2
    obtain ⟨b1, o1, e1, _, _, hsrc⟩ := HSRC.out hy0
    have HY1 := Lib.hid (show y.v = .slice (some ⟨b1, o1, none⟩) y.l.length y.c by unfold Ls.v; rw [e1])
    have HS1 := Lib.hid (show ∀ j u, (kU8.cells y.l)[j]? = some u → w3.cell? ((⟨b1, o1, none⟩ : Addr).add j) = some u from fun j u hu => by rw [Addr.add_lit]; exact hsrc j u hu)
    clear hsrc e1 HSRC
    refine wpAnyH_ready (rs := [10]) (by kernel_rfl) (by simp) ?_
    refine AllReadyH.cons rfl (fun K hK => ?_) AllReadyH.nil
    refine step_push1 ki_u8 rfl (.tmp 4) (.tmp 12) rfl (w.heap.size + 1) z1 HG3.out rfl ⟨b1, o1, none⟩ y.l.length y.c y.l HY1.out rfl hy0 HS1.out (by rw [HZ.out]; have := con_len HT.out; omega) (Blk.lt HV3.out) ?_
    intro z2 w4 hz2 hg2 hgw _
    have HZ2 := Lib.hid hz2
    have HG4 := Lib.hid hg2
    have HB4 := Lib.hid (HB3.out.grown hgw HB3.out.size fun g eg => by have := (HG3.out.lt g eg).1; omega)
    have HV4 := Lib.hid (show Vr w4 w.heap.size o from blk_grown HV3.out hgw fun eg => by have := (HG3.out.lt _ eg.symm).1; omega)
    clear hz2 hg2 hgw HG3 HS1 HB3 HV3
    refine hK.out _ _ HV4.out (fun hHeld1 => ?_)
    clear hK K
    try simp only [Act.put, List.getElem_toArray, List.getElem_cons_succ, List.getElem_cons_zero, List.setIfInBounds_toArray, List.set_cons_zero, List.set_cons_succ]
    refine wpAnyH_take (i := 11) (v := ?_) rfl (by kernel_rfl) (by kernel_rfl) (by kernel_rfl) (fun _ _ _ h => h) (Or.inl ⟨by rfl, ?_⟩) (by assumption) ?_
    rotate_left
    · (intro w hSw; (try dsimp only at hSw); go_simp; try (with_reducible rfl))
    try simp only [Act.put, List.getElem_toArray, List.getElem_cons_succ, List.getElem_cons_zero, List.setIfInBounds_toArray, List.set_cons_zero, List.set_cons_succ]
    refine wpAnyH_done (by kernel_rfl) ?_ _
    go_wp2
    go_ret
    exact ⟨z2, rfl, by rw [HZ2.out, HZ.out, HYL.out]; unfold put; simp [LOp.er], HG4.out.base (Nat.le_succ _), HB4.out⟩
  · go_simp
    refine hK.out _ _ (show Vr (w0.drew.alloc (.cells #[.int .u64 (o.r : Int), .int .u64 (o.s : Int)] 25)) w.heap.size o from blk_alloc HV0.out _) (fun hHeld1 => ?_)
    clear hK K
    try simp only [Act.put, List.getElem_toArray, List.getElem_cons_succ, List.getElem_cons_zero, List.setIfInBounds_toArray, List.set_cons_zero, List.set_cons_succ]
    refine wpAnyH_ready (rs := [1]) (by kernel_rfl) (by simp) ?_
    refine AllReadyH.cons rfl (fun K hK => ?_) AllReadyH.nil
    go_simp
    refine (HCA.out).mono ?_
    rintro e w1 ⟨z1, rfl, hzl, hgz, hb1⟩
    have HZ := Lib.hid hzl
    have HV2 := Lib.hid (show Vr w1 w.heap.size o from (show Vr (w0.drew.alloc (.cells #[.int .u64 (o.r : Int), .int .u64 (o.s : Int)] 25)) w.heap.size o from blk_alloc HV0.out _).below hb1 (Nat.lt_of_lt_of_le (Blk.lt HV0.out) (by simp)))
    have HG2 := Lib.hid (hgz.base (Nat.le_trans (Blk.lt HV0.out) (by simp)))
    have HB2 := Lib.hid ((HB0.out.alloc HB0.out.size (.cells #[.int .u64 (o.r : Int), .int .u64 (o.s : Int)] 25)).trans (hb1.mono (Nat.le_trans HB0.out.size (by simp))))
    have HNU := Lib.hid (rnums_any (w := w1) ⟨[o.r, o.s], some ⟨w0.drew.heap.size, 0, none⟩, 2⟩ ((lz_new (K := kU64) w0.drew [o.r, o.s] #[.int .u64 (o.r : Int), .int .u64 (o.s : Int)] 2 rfl rfl).bf (Bf.below hb1)) (by show 2 ≤ 1000; omega) HN2.out)
    clear hzl hgz hb1 HC HCA
    try go_simp
    refine hK.out _ _ HV2.out (fun hHeld1 => ?_)
    clear hK K
    try simp only [Act.put, List.getElem_toArray, List.getElem_cons_succ, List.getElem_cons_zero, List.setIfInBounds_toArray, List.set_cons_zero, List.set_cons_succ]
    refine wpAnyH_ready (rs := [9]) (by kernel_rfl) (by simp) ?_
    refine AllReadyH.cons rfl (fun K hK => ?_) AllReadyH.nil
    go_simp
    refine (HNU.out).mono ?_
    rintro e w3 ⟨y, rfl, hyl, hgy, hb3⟩
    have HYL := Lib.hid hyl
    have HV3 := Lib.hid (HV2.out.below hb3 (Blk.lt HV2.out))
    have HG3 := Lib.hid (HG2.out.below hb3)
    have HB3 := Lib.hid (HB2.out.trans (hb3.mono HB2.out.size))
    have HSRC := Lib.hid ((hgy.lz (F := No) fun _ h => h.elim).rd)
    clear hyl hgy hb3 HNU HV2 HG2 HB2
    try go_simp
    refine hK.out _ _ HV3.out (fun hHeld1 => ?_)
    clear hK K
    try simp only [Act.put, List.getElem_toArray, List.getElem_cons_succ, List.getElem_cons_zero, List.setIfInBounds_toArray, List.set_cons_zero, List.set_cons_succ]
    have hy20 : y.l.length ≤ 20 := by rw [HYL.out]; exact HN20.out.1
    have hy0 : 0 < y.l.length := by rw [HYL.out]; exact HN20.out.2
    obtain ⟨b1, o1, e1, _, _, hsrc⟩ := HSRC.out hy0
    have HY1 := Lib.hid (show y.v = .slice (some ⟨b1, o1, none⟩) y.l.length y.c by unfold Ls.v; rw [e1])
    have HS1 := Lib.hid (show ∀ j u, (kU8.cells y.l)[j]? = some u → w3.cell? ((⟨b1, o1, none⟩ : Addr).add j) = some u from fun j u hu => by rw [Addr.add_lit]; exact hsrc j u hu)
    clear hsrc e1 HSRC
    refine wpAnyH_ready (rs := [10]) (by kernel_rfl) (by simp) ?_
    refine AllReadyH.cons rfl (fun K hK => ?_) AllReadyH.nil
    refine step_push1 ki_u8 rfl (.tmp 4) (.tmp 12) rfl (w.heap.size + 1) z1 HG3.out rfl ⟨b1, o1, none⟩ y.l.length y.c y.l HY1.out rfl hy0 HS1.out (by rw [HZ.out]; have := con_len HT.out; omega) (Blk.lt HV3.out) ?_
    intro z2 w4 hz2 hg2 hgw _
    have HZ2 := Lib.hid hz2
    have HG4 := Lib.hid hg2
    have HB4 := Lib.hid (HB3.out.grown hgw HB3.out.size fun g eg => by have := (HG3.out.lt g eg).1; omega)
    have HV4 := Lib.hid (show Vr w4 w.heap.size o from blk_grown HV3.out hgw fun eg => by have := (HG3.out.lt _ eg.symm).1; omega)
    clear hz2 hg2 hgw HG3 HS1 HB3 HV3
    refine hK.out _ _ HV4.out (fun hHeld1 => ?_)
    clear hK K
    try simp only [Act.put, List.getElem_toArray, List.getElem_cons_succ, List.getElem_cons_zero, List.setIfInBounds_toArray, List.set_cons_zero, List.set_cons_succ]
    refine wpAnyH_take (i := 11) (v := ?_) rfl (by kernel_rfl) (by kernel_rfl) (by kernel_rfl) (fun _ _ _ h => h) (Or.inl ⟨by rfl, ?_⟩) (by assumption) ?_
    rotate_left
    · (intro w hSw; (try dsimp only at hSw); go_simp; try (with_reducible rfl))
    try simp only [Act.put, List.getElem_toArray, List.getElem_cons_succ, List.getElem_cons_zero, List.setIfInBounds_toArray, List.set_cons_zero, List.set_cons_succ]
    refine wpAnyH_done (by kernel_rfl) ?_ _
    go_wp2
    go_ret
    exact ⟨z2, rfl, by rw [HZ2.out, HZ.out, HYL.out]; unfold put; simp [LOp.er], HG4.out.base (Nat.le_succ _), HB4.out⟩
end Ot
end Go.Proofs.YtkicjjcangkneaaGreatDoor
