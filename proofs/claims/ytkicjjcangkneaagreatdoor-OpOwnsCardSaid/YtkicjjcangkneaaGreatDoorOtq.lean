/-
  Names, boxes and bytes made of numbers taken. No condition but how many.
-/
import Derived.Test.YtkicjjcangkneaaGreatDoorOtp
import Derived.Test.YtkicjjcangkneaaGreatDoorOti
namespace Go.Proofs.YtkicjjcangkneaaGreatDoor
open Go.RowKit
attribute [local go_sem ↓] Go.wp_at_zero Go.wp_at_succ
set_option maxRecDepth 100000
namespace Ot
theorem Tn.trans {T i j : Nat} {a b c : World} {xs : List Int} (h : Tn T a b xs i) (k : Tn T b c xs j) : Tn T a c xs j := ⟨k.1, h.2.trans k.2⟩
theorem wrap_u (r : Nat) (h : r < 18446744073709551616) : IntKind.u64.wrap (r : Int) = (r : Int) := by rw [IntKind.wrap_u64]; omega
theorem wrap_u1 (r : Nat) (h : r < 18446744073709551615) : IntKind.u64.wrap (1 + (r : Int)) = ((1 + r : Nat) : Int) := by rw [IntKind.wrap_u64]; omega
theorem wrap_i1 (r : Nat) (h : r < 1000000000) : IntKind.i64.wrap (1 + (r : Int)) = ((1 + r : Nat) : Int) := by rw [IntKind.wrap_i64]; omega
/-- A name that the reference makes. -/
def GNm (y : Pk.Nm) : Prop := 1 ≤ y.a ∧ y.a ≤ 6 ∧ 1 ≤ y.b ∧ y.b ≤ 9 ∧ y.c < 1000000
def GBx (y : Bx) : Prop := 1 ≤ y.dst ∧ y.dst ≤ 1000 ∧ 1 ≤ y.eph ∧ y.eph ≤ 1000 ∧ y.body < 1000 ∧ y.tag < 1000
theorem GNm.ok {y : Pk.Nm} (h : GNm y) : okNm y := by
  obtain ⟨h1, h2, h3, h4, h5⟩ := h
  exact ⟨⟨by omega, by omega⟩, ⟨by omega, by omega⟩, by show y.c < _; omega⟩
theorem GBx.ok {y : Bx} (h : GBx y) : okBx y := by
  obtain ⟨h1, h2, h3, h4, h5, h6⟩ := h
  exact ⟨by show y.dst < _; omega, by show y.eph < _; omega, by show y.body < _; omega, by show y.tag < _; omega⟩

set_option maxHeartbeats 2000000 in
theorem name_any {T i : Nat} {w : World} {xs : List Int} (h : Tk T w xs i) (hi : i ≤ 900) :
    Calls Tryz.prog 34 #[.pointer (some ⟨T, 0, none⟩)] w fun e w' => ∃ y : Pk.Nm, e = .returned (.agg #[.int .i64 y.a, .int .i64 y.b, .int .u64 (y.c : Int)]) ∧ GNm y ∧ Tn T w w' xs (i + 3) := by
  have hTl := h.lt
  have h0 := h.alloc (.cells #[.int .i64 0, .int .i64 0, .int .u64 0] 27)
  have hR0 := blk_new w 27 #[.int .i64 0, .int .i64 0, .int .u64 0]
  have hg0 := World.grownBy_alloc w (.cells #[.int .i64 0, .int .i64 0, .int .u64 0] 27) (some T)
  obtain ⟨B, hB⟩ : ∃ B, B = w.heap.size := ⟨_, rfl⟩
  rw [← hB] at hR0 hTl
  have e0 : w.heap.size = B := hB.symm
  have HB := Lib.hid hB
  have HN1 := Lib.hid (next_any h0 (by omega) 6 (by omega) (by omega))
  have HR0 := Lib.hid hR0
  have HG0 := Lib.hid hg0
  have HI := Lib.hid hi
  have hTB : T ≠ B := by omega
  have b1 := nx_lt xs i (show 0 < 6 by omega)
  have b2 := nx_lt xs (i + 1) (show 0 < 9 by omega)
  have b3 := nx_lt xs (i + 1 + 1) (show 0 < 1000000 by omega)
  obtain ⟨r1, hr1⟩ : ∃ r, r = nx xs i 6 := ⟨_, rfl⟩
  obtain ⟨r2, hr2⟩ : ∃ r, r = nx xs (i + 1) 9 := ⟨_, rfl⟩
  obtain ⟨r3, hr3⟩ : ∃ r, r = nx xs (i + 1 + 1) 1000000 := ⟨_, rfl⟩
  rw [← hr1] at b1 HN1
  rw [← hr2] at b2
  rw [← hr3] at b3
  have HR2 := Lib.hid hr2
  have HR3 := Lib.hid hr3
  have hu := wrap_u r3 (by omega)
  clear h h0 hR0 hg0 hB hi hr1 hr2 hr3
  go_enter Tryz.func34, Tryz.ntmps34
  go_wp2_with fail
  refine (HN1.out).mono ?_
  rintro e w1 ⟨rfl, ht1, hg1⟩
  have HN2 := Lib.hid (next_any ht1 (by have := HI.out; omega) 9 (by omega) (by omega))
  have HG1 := Lib.hid (HG0.out.trans hg1)
  have HB1 := Lib.hid (blk_grown HR0.out hg1 (fun eg => by injection eg with eg; exact hTB eg.symm))
  rw [← HR2.out] at HN2
  clear ht1 hg1 HN1 HR0 HG0
  go_wp2_with fail
  refine (HN2.out).mono ?_
  rintro e w2 ⟨rfl, ht2, hg2⟩
  have HN3 := Lib.hid (next_any ht2 (by have := HI.out; omega) 1000000 (by omega) (by omega))
  have HG2 := Lib.hid (HG1.out.trans hg2)
  have HB2 := Lib.hid (blk_grown HB1.out hg2 (fun eg => by injection eg with eg; exact hTB eg.symm))
  rw [← HR3.out] at HN3
  clear ht2 hg2 HN2 HB1 HG1
  go_wp2_with fail
  refine (HN3.out).mono ?_
  rintro e w3 ⟨rfl, ht3, hg3⟩
  have HT3 := Lib.hid ht3
  have HG3 := Lib.hid (HG2.out.trans hg3)
  have HB3 := Lib.hid (blk_grown HB2.out hg3 (fun eg => by injection eg with eg; exact hTB eg.symm))
  clear ht3 hg3 HN3 HB2 HG2
  go_wp2_with (refine wpList_store_row rfl 27 _ _ rfl B #[.int .i64 (1 + (r1 : Int)), .int .i64 (1 + (r2 : Int)), .int .u64 (r3 : Int)] rfl rfl 27 _ HB3.out idn_info rfl (by simp [Value.oneCell']) ?_)
  have hgr := grown_setRow w3 B #[.int .i64 (1 + (r1 : Int)), .int .i64 (1 + (r2 : Int)), .int .u64 (r3 : Int)]
  refine bodyPost_ret (v := .agg #[.int .i64 (1 + (r1 : Int)), .int .i64 (1 + (r2 : Int)), .int .u64 (r3 : Int)]) (results_cell_row rfl _ _ B 27 _ (0, 0) _ rfl (blk_setRow HB3.out _) idn_under rfl idn_info) rfl ?_
  refine ⟨⟨1 + (r1 : Int), 1 + (r2 : Int), r3⟩, rfl, ⟨by show 1 ≤ 1 + (r1 : Int); omega, by show 1 + (r1 : Int) ≤ 6; omega, by show 1 ≤ 1 + (r2 : Int); omega, by show 1 + (r2 : Int) ≤ 9; omega, b3⟩, HT3.out.bf (F := fun k => k = B) (Bf.grown hgr fun g eg => by injection eg with eg; exact eg.symm) (fun k hk => by rw [hk]; exact hTl), ?_⟩
  exact HG3.out.andThen hgr fun j ej => by injection ej with ej; exact .inl (by have := HB.out; omega)

set_option maxHeartbeats 4000000 in
theorem boxes_any {T i : Nat} {w : World} {xs : List Int} (h : Tk T w xs i) (n : Nat) (hn : n ≤ 30) (hi : i ≤ 800) :
    Calls Tryz.prog 37 #[.pointer (some ⟨T, 0, none⟩), .int .i64 (n : Int)] w fun e w' => ∃ x : Ls Bx, e = .returned (.slice x.A x.l.length x.c) ∧ x.l.length = n ∧ (∀ y ∈ x.l, GBx y) ∧ Gr kBx w.heap.size w' x ∧ Tn T w w' xs (i + 4 * n) := by
  have hTl := h.lt
  obtain ⟨B, hB⟩ : ∃ B, B = w.heap.size := ⟨_, rfl⟩
  rw [← hB] at hTl ⊢
  have HB := Lib.hid hB
  have HT := Lib.hid h
  clear h hB
  go_enter Tryz.func37, Tryz.ntmps37
  go_wp2
  go_loopw [5, 6] (fun lv v wr => ∃ (x : Ls Bx), lv = x.v ∧ v = .int .i64 (x.l.length : Int) ∧ x.l.length ≤ n ∧ (∀ y ∈ x.l, GBx y) ∧ Gr kBx B wr x ∧ Tn T w wr xs (i + 4 * x.l.length)) (fun _ v _ => n - (intOf v).toNat)
  case atStart => exact ⟨Ls.nil, rfl, rfl, Nat.zero_le _, (fun _ hy => nomatch hy), Gr.nil B w, HT.out, World.grownBy.refl w _⟩
  case round =>
    obtain ⟨x, rfl, rfl, hxn, hgood, hgr, htn⟩ := hrel
    by_cases hc : x.l.length < n
    · obtain ⟨L, hL⟩ : ∃ L, L = x.l.length := ⟨_, rfl⟩
      obtain ⟨xv, hxv⟩ : ∃ xv, xv = x.v := ⟨_, rfl⟩
      have HL := Lib.hid hL
      have HXV := Lib.hid hxv
      rw [← hL] at hc hxn htn ⊢
      rw [← hxv]
      have HGOOD := Lib.hid hgood
      have HGR0 := Lib.hid hgr
      have HTN0 := Lib.hid htn
      have b0 := nx_lt xs (i + 4 * L) (show 0 < 1000 by omega)
      obtain ⟨r0, hr0⟩ : ∃ r, r = nx xs (i + 4 * L) 1000 := ⟨_, rfl⟩
      rw [← hr0] at b0
      have HR0 := Lib.hid hr0
      have b1 := nx_lt xs (i + 4 * L + 1) (show 0 < 1000 by omega)
      obtain ⟨r1, hr1⟩ : ∃ r, r = nx xs (i + 4 * L + 1) 1000 := ⟨_, rfl⟩
      rw [← hr1] at b1
      have HR1 := Lib.hid hr1
      have b2 := nx_lt xs (i + 4 * L + 1 + 1) (show 0 < 1000 by omega)
      obtain ⟨r2, hr2⟩ : ∃ r, r = nx xs (i + 4 * L + 1 + 1) 1000 := ⟨_, rfl⟩
      rw [← hr2] at b2
      have HR2 := Lib.hid hr2
      have b3 := nx_lt xs (i + 4 * L + 1 + 1 + 1) (show 0 < 1000 by omega)
      obtain ⟨r3, hr3⟩ : ∃ r, r = nx xs (i + 4 * L + 1 + 1 + 1) 1000 := ⟨_, rfl⟩
      rw [← hr3] at b3
      have HR3 := Lib.hid hr3
      have u0 := wrap_u r0 (by omega)
      have u1 := wrap_u r1 (by omega)
      have u2 := wrap_u r2 (by omega)
      have u3 := wrap_u r3 (by omega)
      have v0 := wrap_u1 r0 (by omega)
      have v1 := wrap_u1 r1 (by omega)
      have HN0 := Lib.hid (next_any htn.1 (by omega) 1000 (by omega) (by omega))
      rw [← HR0.out] at HN0
      clear hL hxv hgood hgr htn hr0 hr1 hr2 hr3
      go_wp2_with fail
      refine (HN0.out).mono ?_
      rintro e w1 ⟨rfl, ht, hg⟩
      have HTN1 := Lib.hid (Tn.trans HTN0.out ⟨ht, hg⟩)
      have HGR1 := Lib.hid (HGR0.out.grown hg fun g eg => by injection eg with eg; omega)
      have HN1 := Lib.hid (next_any ht (by omega) 1000 (by omega) (by omega))
      rw [← HR1.out] at HN1
      clear ht hg HN0 HTN0 HGR0
      go_wp2_with fail
      refine (HN1.out).mono ?_
      rintro e w2 ⟨rfl, ht, hg⟩
      have HTN2 := Lib.hid (Tn.trans HTN1.out ⟨ht, hg⟩)
      have HGR2 := Lib.hid (HGR1.out.grown hg fun g eg => by injection eg with eg; omega)
      have HN2 := Lib.hid (next_any ht (by omega) 1000 (by omega) (by omega))
      rw [← HR2.out] at HN2
      clear ht hg HN1 HTN1 HGR1
      go_wp2_with fail
      refine (HN2.out).mono ?_
      rintro e w3 ⟨rfl, ht, hg⟩
      have HTN3 := Lib.hid (Tn.trans HTN2.out ⟨ht, hg⟩)
      have HGR3 := Lib.hid (HGR2.out.grown hg fun g eg => by injection eg with eg; omega)
      have HN3 := Lib.hid (next_any ht (by omega) 1000 (by omega) (by omega))
      rw [← HR3.out] at HN3
      clear ht hg HN2 HTN2 HGR2
      go_wp2_with fail
      refine (HN3.out).mono ?_
      rintro e w4 ⟨rfl, ht, hg⟩
      have HTN4 := Lib.hid (Tn.trans HTN3.out ⟨ht, hg⟩)
      have HGR4 := Lib.hid (HGR3.out.grown hg fun g eg => by injection eg with eg; omega)
      clear ht hg HN3 HTN3 HGR3
      have HSZ := Lib.hid (show B ≤ w4.heap.size by have := HTN4.out.2.size; have := HB.out; omega)
      have HSRC := Lib.hid (show ∀ j u, (kBx.cells [⟨1 + r0, 1 + r1, r2, r3⟩])[j]? = some u → (w4.alloc (.cells #[.int .u64 ((1 + r0 : Nat) : Int), .int .u64 ((1 + r1 : Nat) : Int), .int .u64 (r2 : Int), .int .u64 (r3 : Int)] 68)).cell? ((⟨w4.heap.size, 0, none⟩ : Addr).add j) = some u from fun j u hu => by
        rw [kBx.cells_one] at hu
        exact cell_new w4 #[.int .u64 ((1 + r0 : Nat) : Int), .int .u64 ((1 + r1 : Nat) : Int), .int .u64 (r2 : Int), .int .u64 (r3 : Int)] 68 j u hu)
      have HGA := Lib.hid (HGR4.out.below ((Below.refl _ w4).alloc (Nat.le_refl _) (.cells #[.int .u64 ((1 + r0 : Nat) : Int), .int .u64 ((1 + r1 : Nat) : Int), .int .u64 (r2 : Int), .int .u64 (r3 : Int)] 68)))
      have HTA := Lib.hid (show Tk T (w4.alloc (.cells #[.int .u64 ((1 + r0 : Nat) : Int), .int .u64 ((1 + r1 : Nat) : Int), .int .u64 (r2 : Int), .int .u64 (r3 : Int)] 68)) xs _ ∧ w.grownBy (w4.alloc (.cells #[.int .u64 ((1 + r0 : Nat) : Int), .int .u64 ((1 + r1 : Nat) : Int), .int .u64 (r2 : Int), .int .u64 (r3 : Int)] 68)) (some T) from ⟨HTN4.out.1.alloc _, HTN4.out.2.trans (World.grownBy_alloc _ _ _)⟩)
      go_wp2_with (at_builtin; refine wpList_push1 ki_bx rfl _ _ rfl B x HGA.out HXV.out _ 1 1 [⟨1 + r0, 1 + r1, r2, r3⟩] rfl rfl (by omega) HSRC.out (by have := HL.out; simp only [List.length_singleton]; omega) (by have := HSZ.out; simp; omega) ?_; intro z w9 hz hgr9 hgw9 _; have HZ := Lib.hid hz; have HGR9 := Lib.hid hgr9; have HGW9 := Lib.hid hgw9; clear hz hgr9 hgw9)
      have hsz9 : z.l.length = L + 1 := by rw [HZ.out, List.length_append, ← HL.out]; rfl
      go_roundw
      case rel =>
        refine ⟨z, rfl, by rw [hsz9]; go_num, by rw [hsz9]; exact hc, ?_, HGR9.out, ?_, ?_⟩
        · intro y hy
          rw [HZ.out] at hy
          rcases List.mem_append.1 hy with h1 | h1
          · exact HGOOD.out y h1
          · rw [List.mem_singleton.1 h1]; exact ⟨by show 1 ≤ 1 + r0; omega, by show 1 + r0 ≤ 1000; omega, by show 1 ≤ 1 + r1; omega, by show 1 + r1 ≤ 1000; omega, b2, b3⟩
        · have := HTA.out.1.bf (Bf.grown HGW9.out fun g eg => eg) (fun k hk => by have := (HGA.out.lt k hk).1; omega)
          rw [hsz9]
          rw [show i + 4 * (L + 1) = i + 4 * L + 1 + 1 + 1 + 1 by omega]
          exact this
        · exact HTA.out.2.andThen HGW9.out fun j ej => .inl (by have := (HGA.out.lt j ej).1; have := HB.out; omega)
      case measure => simp [intOf]; omega
    · have hxe : x.l.length = n := by omega
      obtain ⟨xv, hxv⟩ : ∃ xv, xv = x.v := ⟨_, rfl⟩
      have HXV := Lib.hid hxv
      have HGR := Lib.hid hgr
      have HXE := Lib.hid hxe
      have HGOOD := Lib.hid hgood
      have HTN := Lib.hid htn
      rw [hxe, ← hxv]
      clear hgr hxe hxv hc hgood htn
      go_wp2
      go_ret
      exact ⟨x, congrArg Ending.returned HXV.out, HXE.out, HGOOD.out, HGR.out, by have h := HTN.out; rw [HXE.out] at h; exact h⟩

theorem wrap_8 (r : Nat) (h : r < 256) : IntKind.u8.wrap (r : Int) = (r : Int) := by rw [IntKind.wrap_u8]; omega
theorem nat_8 (r : Nat) (h : r < 256) : ((UInt8.ofNat r).toNat : Int) = (r : Int) := by rw [Pk.of_nat h]
def GB8 (_ : UInt8) : Prop := True
set_option maxHeartbeats 4000000 in
theorem bytes_any {T i : Nat} {w : World} {xs : List Int} (h : Tk T w xs i) (n : Nat) (hn : n ≤ 30) (hi : i ≤ 800) :
    Calls Tryz.prog 38 #[.pointer (some ⟨T, 0, none⟩), .int .i64 (n : Int)] w fun e w' => ∃ x : Ls UInt8, e = .returned (.slice x.A x.l.length x.c) ∧ x.l.length = n ∧ (∀ y ∈ x.l, GB8 y) ∧ Gr kU8 w.heap.size w' x ∧ Tn T w w' xs (i + n) := by
  have hTl := h.lt
  obtain ⟨B, hB⟩ : ∃ B, B = w.heap.size := ⟨_, rfl⟩
  rw [← hB] at hTl ⊢
  have HB := Lib.hid hB
  have HT := Lib.hid h
  clear h hB
  go_enter Tryz.func38, Tryz.ntmps38
  go_wp2
  go_loopw [5, 6] (fun lv v wr => ∃ (x : Ls UInt8), lv = x.v ∧ v = .int .i64 (x.l.length : Int) ∧ x.l.length ≤ n ∧ (∀ y ∈ x.l, GB8 y) ∧ Gr kU8 B wr x ∧ Tn T w wr xs (i + x.l.length)) (fun _ v _ => n - (intOf v).toNat)
  case atStart => exact ⟨Ls.nil, rfl, rfl, Nat.zero_le _, (fun _ hy => nomatch hy), Gr.nil B w, HT.out, World.grownBy.refl w _⟩
  case round =>
    obtain ⟨x, rfl, rfl, hxn, hgood, hgr, htn⟩ := hrel
    by_cases hc : x.l.length < n
    · obtain ⟨L, hL⟩ : ∃ L, L = x.l.length := ⟨_, rfl⟩
      obtain ⟨xv, hxv⟩ : ∃ xv, xv = x.v := ⟨_, rfl⟩
      have HL := Lib.hid hL
      have HXV := Lib.hid hxv
      rw [← hL] at hc hxn htn ⊢
      rw [← hxv]
      have HGOOD := Lib.hid hgood
      have HGR0 := Lib.hid hgr
      have HTN0 := Lib.hid htn
      have b0 := nx_lt xs (i + L) (show 0 < 256 by omega)
      obtain ⟨r0, hr0⟩ : ∃ r, r = nx xs (i + L) 256 := ⟨_, rfl⟩
      rw [← hr0] at b0
      have HR0 := Lib.hid hr0
      obtain ⟨d0, hd0⟩ : ∃ d : UInt8, d = UInt8.ofNat r0 := ⟨_, rfl⟩
      have v0 : (r0 : Int) = (d0.toNat : Int) := by rw [hd0, nat_8 r0 (by omega)]
      have u0 : IntKind.u8.wrap (d0.toNat : Int) = (d0.toNat : Int) := by rw [← v0]; exact wrap_8 r0 (by omega)
      clear hd0
      have HN0 := Lib.hid (next_any htn.1 (by omega) 256 (by omega) (by omega))
      rw [← HR0.out] at HN0
      clear hL hxv hgood hgr htn hr0
      go_wp2_with fail
      refine (HN0.out).mono ?_
      rintro e w1 ⟨rfl, ht, hg⟩
      have HTN1 := Lib.hid (Tn.trans HTN0.out ⟨ht, hg⟩)
      have HGR1 := Lib.hid (HGR0.out.grown hg fun g eg => by injection eg with eg; omega)
      clear ht hg HN0 HTN0 HGR0
      have HSZ := Lib.hid (show B ≤ w1.heap.size by have := HTN1.out.2.size; have := HB.out; omega)
      have HSRC := Lib.hid (show ∀ j u, (kU8.cells [d0])[j]? = some u → (w1.alloc (.cells #[.int .u8 (d0.toNat : Int)] 5)).cell? ((⟨w1.heap.size, 0, none⟩ : Addr).add j) = some u from fun j u hu => by
        rw [kU8.cells_one] at hu
        exact cell_new w1 #[.int .u8 (d0.toNat : Int)] 5 j u hu)
      have HGA := Lib.hid (HGR1.out.below ((Below.refl _ w1).alloc (Nat.le_refl _) (.cells #[.int .u8 (d0.toNat : Int)] 5)))
      have HTA := Lib.hid (show Tk T (w1.alloc (.cells #[.int .u8 (d0.toNat : Int)] 5)) xs _ ∧ w.grownBy (w1.alloc (.cells #[.int .u8 (d0.toNat : Int)] 5)) (some T) from ⟨HTN1.out.1.alloc _, HTN1.out.2.trans (World.grownBy_alloc _ _ _)⟩)
      go_wp2_with (at_builtin; refine wpList_push1 ki_u8 rfl _ _ rfl B x HGA.out HXV.out _ 1 1 [d0] rfl rfl (by omega) HSRC.out (by have := HL.out; simp only [List.length_singleton]; omega) (by have := HSZ.out; simp; omega) ?_; intro z w9 hz hgr9 hgw9 _; have HZ := Lib.hid hz; have HGR9 := Lib.hid hgr9; have HGW9 := Lib.hid hgw9; clear hz hgr9 hgw9)
      have hsz9 : z.l.length = L + 1 := by rw [HZ.out, List.length_append, ← HL.out]; rfl
      go_roundw
      case rel =>
        refine ⟨z, rfl, by rw [hsz9]; go_num, by rw [hsz9]; exact hc, ?_, HGR9.out, ?_, ?_⟩
        · intro y hy
          rw [HZ.out] at hy
          rcases List.mem_append.1 hy with h1 | h1
          · exact HGOOD.out y h1
          · rw [List.mem_singleton.1 h1]; exact trivial
        · have := HTA.out.1.bf (Bf.grown HGW9.out fun g eg => eg) (fun k hk => by have := (HGA.out.lt k hk).1; omega)
          rw [hsz9]
          rw [show i + (L + 1) = i + L + 1 by omega]
          exact this
        · exact HTA.out.2.andThen HGW9.out fun j ej => .inl (by have := (HGA.out.lt j ej).1; have := HB.out; omega)
      case measure => simp [intOf]; omega
    · have hxe : x.l.length = n := by omega
      obtain ⟨xv, hxv⟩ : ∃ xv, xv = x.v := ⟨_, rfl⟩
      have HXV := Lib.hid hxv
      have HGR := Lib.hid hgr
      have HXE := Lib.hid hxe
      have HGOOD := Lib.hid hgood
      have HTN := Lib.hid htn
      rw [hxe, ← hxv]
      clear hgr hxe hxv hc hgood htn
      go_wp2
      go_ret
      exact ⟨x, congrArg Ending.returned HXV.out, HXE.out, HGOOD.out, HGR.out, by have h := HTN.out; rw [HXE.out] at h; exact h⟩

end Ot
end Go.Proofs.YtkicjjcangkneaaGreatDoor
