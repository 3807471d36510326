/-
  What is read of bytes by package op: each reading told by where it leaves the cursor; lists of them; boxes, nodes, sealed keys. No condition but what fits memory.
-/
import Derived.Test.YtkicjjcangkneaaGreatDoorOte
namespace Go.Proofs.YtkicjjcangkneaaGreatDoor
open Go.RowKit
open Pk (pInt pNum pName pText pMany nInt)
attribute [local go_sem ↓] Go.wp_at_zero Go.wp_at_succ
set_option maxRecDepth 100000
namespace Ot
/-- Behind a reading: the cursor, and what was there. -/
def Rdd {α : Type} (rd : List UInt8 → Pk.R α) (lo C : Nat) (l : List UInt8) (k : Nat) (e : Int) (w w' : World) (v : α) : Prop :=
  ∃ k' e', Cu lo 165 w' C l k' e' ∧ Rok rd l k k' e e' v ∧ w.grownBy w' (some C)
theorem rd_int {lo C : Nat} {l : List UInt8} {k : Nat} {e : Int} {w : World} (h : Cu lo 165 w C l k e) :
    Calls Tryz.prog 135 #[.pointer (some ⟨C, 0, none⟩)] w fun x w' => ∃ y, x = .returned (.int .i64 y) ∧ i64 y ∧ Rdd pInt lo C l k e w w' y :=
  (in_int h).mono fun _ _ ⟨h1, h2, h3⟩ => ⟨_, h1, zag_bounds e _, _, _, h2, Rok.of_stp 0 pInt l k e, h3⟩
theorem rd_num {lo C : Nat} {l : List UInt8} {k : Nat} {e : Int} {w : World} (h : Cu lo 165 w C l k e) :
    Calls Tryz.prog 62 #[.pointer (some ⟨C, 0, none⟩)] w fun x w' => ∃ y : Nat, x = .returned (.int .u64 (y : Int)) ∧ u64 y ∧ Rdd pNum lo C l k e w w' y :=
  (in_num h).mono fun _ _ ⟨h1, h2, h3⟩ => ⟨_, h1, stp_num_lt e _, _, _, h2, Rok.of_stp 0 pNum l k e, h3⟩
theorem name_ok (e : Int) (l : List UInt8) : okNm (Pk.stp ⟨0, 0, 0⟩ e (pName l)).v := by
  by_cases h : e = 0
  · subst h
    rw [Pk.stp_ok]
    exact pname_ok l
  · rw [Pk.stp_bad _ _ h]
    have z0 : i64 0 := ⟨by decide, by decide⟩
    exact ⟨z0, z0, by show (0 : Nat) < 18446744073709551616; omega⟩
theorem rd_name {lo C : Nat} {l : List UInt8} {k : Nat} {e : Int} {w : World} (h : Cu lo 165 w C l k e) :
    Calls Tryz.prog 137 #[.pointer (some ⟨C, 0, none⟩)] w fun x w' => ∃ y : Pk.Nm, x = .returned (.agg #[.int .i64 y.a, .int .i64 y.b, .int .u64 (y.c : Int)]) ∧ okNm y ∧ Rdd pName lo C l k e w w' y :=
  (in_name h).mono fun _ _ ⟨h1, h2, h3⟩ => ⟨_, h1, name_ok e _, _, _, h2, Rok.of_stp _ pName l k e, h3⟩
theorem text_ok (e : Int) (l : List UInt8) : (Pk.stp [] e (pText l)).v.length ≤ l.length := by
  by_cases h : e = 0
  · subst h
    rw [Pk.stp_ok]
    by_cases c : (pText l).e = 0
    · exact (Pk.one_text l c).2.2
    · rw [(ptext_bad l c).1]
      exact Nat.zero_le _
  · rw [Pk.stp_bad _ _ h]
    exact Nat.zero_le _
theorem rd_text {lo C : Nat} {l : List UInt8} {k : Nat} {e : Int} {w : World} (h : Cu lo 165 w C l k e) :
    Calls Tryz.prog 198 #[.pointer (some ⟨C, 0, none⟩)] w fun x w' => ∃ y : List UInt8, x = .returned (.string ⟨y.toArray⟩) ∧ y.length ≤ l.length ∧ Rdd pText lo C l k e w w' y :=
  (in_text h).mono fun _ _ ⟨h1, h2, h3⟩ => ⟨_, h1, by have := text_ok e (l.drop k); rw [List.length_drop] at this; omega, _, _, h2, Rok.of_stp _ pText l k e, h3⟩
theorem many_n (e : Int) (l : List UInt8) : ∃ n : Nat, (Pk.stp 0 e (pMany 1000 l)).v = (n : Int) ∧ n ≤ 1000 ∧ ((Pk.stp 0 e (pMany 1000 l)).e ≠ 0 → n = 0) := by
  by_cases h : e = 0
  · subst h
    rw [Pk.stp_ok]
    by_cases c : (pMany 1000 l).e = 0
    · obtain ⟨h1, h2, h3, h4⟩ := Pk.many_ok c
      rw [← h1] at h2 h3
      exact ⟨(pMany 1000 l).v.toNat, by omega, by omega, fun h => absurd c h⟩
    · rw [(pmany_bad 1000 l c).1]
      exact ⟨0, rfl, by omega, fun _ => rfl⟩
  · rw [Pk.stp_bad _ _ h]
    exact ⟨0, rfl, by omega, fun _ => rfl⟩
theorem each_done {α : Type} {rd : List UInt8 → Pk.R α} {l : List UInt8} {k n k0 k1 : Nat} {e e1 : Int} {L : List α} (hn : (Pk.stp 0 e (pMany 1000 (l.drop k))).v = (n : Int)) (hz : (Pk.stp 0 e (pMany 1000 (l.drop k))).e ≠ 0 → n = 0)
    (he : e1 = (Pk.stp 0 e (pMany 1000 (l.drop k))).e) (hk : k0 = k + (Pk.stp 0 e (pMany 1000 (l.drop k))).n) (h : e1 = 0 → Rep rd l k0 n L k1 0) (hl : L.length = n) : Rok (each rd) l k k1 e e1 L := by
  refine ⟨fun h0 => by rw [he, Pk.stp_bad _ _ h0], fun h0 => ?_⟩
  subst h0
  rw [Pk.stp_ok] at hn hz he hk
  unfold each
  rw [hn, Int.toNat_natCast, List.drop_drop, ← hk, ← he]
  simp only
  by_cases c : e1 = 0
  · obtain ⟨d1, d2, d3⟩ := (h c).done hl
    rw [if_pos c, d1]
    exact ⟨c, fun _ => ⟨by omega, d2.symm⟩⟩
  · rw [if_neg c]
    exact ⟨rfl, fun h5 => absurd h5 c⟩
theorem each_bad {α : Type} {rd : List UInt8 → Pk.R α} {l : List UInt8} {k n k0 k1 k2 : Nat} {e e2 : Int} {L : List α} {x : α} (hn : (Pk.stp 0 e (pMany 1000 (l.drop k))).v = (n : Int))
    (he : 0 = (Pk.stp 0 e (pMany 1000 (l.drop k))).e) (hk : k0 = k + (Pk.stp 0 e (pMany 1000 (l.drop k))).n) (h : Rep rd l k0 n L k1 0) (hl : L.length < n) (h2 : e2 ≠ 0) (hx : Rok rd l k1 k2 0 e2 x) : Rok (each rd) l k k2 e e2 [] := by
  have h0 : e = 0 := by
    rcases Int.lt_trichotomy e 0 with h0 | h0 | h0
    · rw [Pk.stp_bad _ _ (by omega)] at he; simp only at he; omega
    · exact h0
    · rw [Pk.stp_bad _ _ (by omega)] at he; simp only at he; omega
  refine ⟨fun h1 => absurd h0 h1, fun _ => ?_⟩
  subst h0
  rw [Pk.stp_ok] at hn he hk
  unfold each
  rw [hn, Int.toNat_natCast, List.drop_drop, ← hk, ← he]
  simp only [if_pos]
  exact ⟨(h.bad hl h2 hx).symm, fun h5 => absurd h5 h2⟩
theorem Rdd.grown {α : Type} {rd : List UInt8 → Pk.R α} {lo C : Nat} {l : List UInt8} {k : Nat} {e : Int} {w0 w w' : World} {v : α} (hg : w0.grownBy w (some C)) (h : Rdd rd lo C l k e w w' v) : Rdd rd lo C l k e w0 w' v := by
  obtain ⟨k', e', h1, h2, h3⟩ := h
  exact ⟨k', e', h1, h2, hg.trans h3⟩
/-- Ahead of block n. -/
def Til (n k : Nat) : Prop := k < n

theorem h_lo {lo t : Nat} {w : World} {C : Nat} {l : List UInt8} {k : Nat} {e : Int} (h : Cu lo t w C l k e) : lo ≤ C := h.lo_le
theorem hD_ne {lo C D : Nat} {l : List UInt8} {k : Nat} {e : Int} {w : World} {cs : Array Value} (hD : Blk w D 100 cs) (h : Cu lo 165 w C l k e) : D ≠ C := by
  obtain ⟨A, c, hC, _⟩ := h
  rintro rfl
  have := blk_type hD hC
  exact absurd this (by decide)
theorem own_far {α : Type} {K : Kd α} {B : Nat} {w : World} {x : Ls α} (h : Gr K B w x) {C : Nat} (hC : C < B) : ∀ g, x.v.ownBlock = some g → g ≠ C := fun g hg e => by have := (h.lt g hg).1; omega
theorem far_read1 {α : Type} {K : Kd α} {lo B C k2 : Nat} {l : List UInt8} {e2 : Int} {w wr w2 w4 : World} {x : Ls α} {o : Obj} (hCB : C < B) (hgr : Gr K B wr x) (hg : w.grownBy wr (some C)) (hg2 : wr.grownBy w2 (some C)) (hcu : Cu lo 165 w2 C l k2 e2) (hB : B = w.heap.size)
    (hg4 : (w2.alloc o).grownBy w4 x.v.ownBlock) : Cu lo 165 w4 C l k2 e2 ∧ w.grownBy w4 (some C) := by
  have hlo := hcu.lo_le
  refine ⟨(hcu.alloc o).grown hg4 fun g eg => ⟨by have := (hgr.lt g eg).1; omega, own_far hgr hCB g eg⟩, ?_⟩
  exact ((hg.trans hg2).trans (World.grownBy_alloc w2 o (some C))).andThen hg4 fun j ej => .inl (by have := (hgr.lt j ej).1; omega)
theorem far_read {α : Type} {K : Kd α} {lo B C k2 : Nat} {l : List UInt8} {e2 : Int} {w wr w2 w4 : World} {x : Ls α} {o : Obj} (_ : lo ≤ C) (hCB : C < B) (hgr : Gr K B wr x) (hg : w.grownBy wr (some C)) (hg2 : wr.grownBy w2 (some C)) (hcu : Cu lo 165 w2 C l k2 e2) (hB : B = w.heap.size)
    (hg4 : ((w2.alloc o).alloc o).grownBy w4 x.v.ownBlock) : Cu lo 165 w4 C l k2 e2 ∧ w.grownBy w4 (some C) :=
  far_read1 hCB hgr hg (hg2.trans (World.grownBy_alloc w2 o (some C))) (hcu.alloc o) hB hg4
theorem nest_read {α β : Type} {K : Kd α} {J : Kd β} {B C : Nat} {w wr w2 w4 : World} {x z : Ls α} {y : Ls β} {o : Obj} (hown : ∀ k, z.v.ownBlock = some k → x.v.ownBlock = some k ∨ ((w2.alloc o).alloc o).heap.size ≤ k) (hg2 : wr.grownBy w2 (some C)) (hCB : C < B) (hB : B = w.heap.size) (hg : w.grownBy wr (some C)) (hg4 : ((w2.alloc o).alloc o).grownBy w4 x.v.ownBlock)
    (hy : Lz J (fun k => k < B ∨ x.v.ownBlock = some k) wr y ∨ Lz J (Til wr.heap.size) w2 y) (hgr : Gr K B wr x) : Lz J (fun k => k < B ∨ z.v.ownBlock = some k) w4 y := by
  have h2 : Lz J (fun k => k < B ∨ x.v.ownBlock = some k) w2 y := by
    rcases hy with h | h
    · exact h.bf (Bf.grown hg2 fun g eg => by injection eg with eg; exact .inl (eg ▸ hCB))
    · refine h.weak fun k _ hk => ?_
      have := hg.size
      rcases hk with hk | hk
      · show k < wr.heap.size; omega
      · exact (hgr.lt k hk).2
  have h3 := (h2.bf (Bf.alloc w2 o)).bf (Bf.alloc (w2.alloc o) o)
  refine h3.step (Bf.grown hg4 fun g eg => .inr eg) fun k hk hz => ?_
  rcases hz with hz | hz
  · exact .inl hz
  · rcases hown k hz with h | h
    · exact .inr h
    · omega

set_option maxHeartbeats 2000000 in
theorem reach_nm {lo C : Nat} {l : List UInt8} {k : Nat} {e : Int} {w : World} (h : Cu lo 165 w C l k e) :
    Calls Tryz.prog 136 #[.pointer (some ⟨C, 0, none⟩), .func (.func 137) #[.pointer (some ⟨C, 0, none⟩)] #[]] w fun x w' => ∃ v : Ls Pk.Nm, x = .returned (.slice v.A v.l.length v.c) ∧ Lz kNm (Til w.heap.size) w' v ∧ okEach okNm v.l ∧ Rdd (each pName) lo C l k e w w' (v.l) := by
  have hm := in_many 1000 (by omega) (by omega) h
  obtain ⟨n, hn, hn1, hn0⟩ := many_n e (l.drop k)
  obtain ⟨e1, he1⟩ : ∃ e1, e1 = (Pk.stp 0 e (pMany 1000 (l.drop k))).e := ⟨_, rfl⟩
  obtain ⟨k0, hk0⟩ : ∃ k0, k0 = k + (Pk.stp 0 e (pMany 1000 (l.drop k))).n := ⟨_, rfl⟩
  rw [← he1, ← hk0, show i64v (Pk.stp 0 e (pMany 1000 (l.drop k))).v = .int .i64 (n : Int) from by rw [hn]; rfl] at hm
  rw [← he1] at hn0
  obtain ⟨B, hBe⟩ : ∃ B, B = w.heap.size := ⟨_, rfl⟩
  have hCB : C < B := by rw [hBe]; exact h.lt
  rw [← hBe]
  have HM := Lib.hid hm
  have HN := Lib.hid hn
  have HE1 := Lib.hid he1
  have HK0 := Lib.hid hk0
  have HN0 := Lib.hid hn0
  have HBE := Lib.hid hBe
  clear hm hn he1 hk0 hn0 h hBe
  go_enter Tryz.func136, Tryz.ntmps136
  go_wp2_with fail
  refine (HM.out).mono ?_
  rintro x w1 ⟨rfl, hcu1, hg1⟩
  have HC1 := Lib.hid hcu1
  have HG1 := Lib.hid hg1
  clear hcu1 hg1 HM
  go_wp2
  go_loopw [5, 6, 9] (fun lv _ i wr => ∃ (x : Ls Pk.Nm) (k1 : Nat), lv = x.v ∧ i = .int .i64 (x.l.length : Int) ∧ x.l.length ≤ n ∧ Gr kNm B wr x ∧ (∀ y ∈ x.l, okNm y) ∧ Cu lo 165 wr C l k1 e1 ∧ (e1 = 0 → Rep pName l k0 n (x.l) k1 0) ∧ w.grownBy wr (some C)) (fun _ _ i _ => n - (intOf i).toNat)
  case atStart => exact ⟨Ls.nil, k0, rfl, rfl, Nat.zero_le _, Gr.nil B w1, (fun _ hy => nomatch hy), HC1.out, fun _ => Rep.zero _ l k0 n 0, HG1.out⟩
  case round =>
    obtain ⟨x, k1, rfl, rfl, hxn, hgr, hok, hcu, hrep, hg⟩ := hrel
    have hBw : B ≤ wr.heap.size := by have := hg.size; have := HBE.out; omega
    by_cases hc : x.l.length < n
    · have he0 : e1 = 0 := by
        by_cases c : e1 = 0
        · exact c
        · have := HN0.out c; omega
      subst he0
      have HREP := Lib.hid (hrep rfl)
      have HGR := Lib.hid hgr
      have HOK := Lib.hid hok
      have HG := Lib.hid hg
      have HRD := Lib.hid (rd_name hcu)
      obtain ⟨L, hL⟩ : ∃ L, L = x.l.length := ⟨_, rfl⟩
      have HL := Lib.hid hL
      obtain ⟨xv, hxv⟩ : ∃ xv, xv = x.v := ⟨_, rfl⟩
      have HXV := Lib.hid hxv
      rw [← hL] at hc hxn ⊢
      rw [← hxv]
      clear hrep hgr hok hcu hg hL hxv HC1 HG1
      go_wp2_with (go_at_call 137; refine (HRD.out).mono ?_; rintro x2 w2 ⟨y, rfl, hyo, k2, e2, hcu2, hrok, hg2⟩; have HYO := Lib.hid hyo; have HCU2 := Lib.hid hcu2; have HROK := Lib.hid hrok; have HG2 := Lib.hid hg2; clear hyo hcu2 hrok hg2 HRD)
      have HCU3 := Lib.hid (HCU2.out.alloc (.cells #[.int .i64 y.a, .int .i64 y.b, .int .u64 (y.c : Int)] 27))
      have HG3 := Lib.hid ((HG.out.trans HG2.out).trans (World.grownBy_alloc w2 (.cells #[.int .i64 y.a, .int .i64 y.b, .int .u64 (y.c : Int)] 27) (some C)))
      have HGRN := Lib.hid (fun (o : Obj) => Gr.below (((HGR.out.grown HG2.out (fun g eg => by injection eg with eg; omega)).below ((Below.refl _ w2).alloc (Nat.le_refl _) (.cells #[.int .i64 y.a, .int .i64 y.b, .int .u64 (y.c : Int)] 27)))) ((Below.refl _ (w2.alloc (.cells #[.int .i64 y.a, .int .i64 y.b, .int .u64 (y.c : Int)] 27))).alloc (Nat.le_refl _) o))
      have HSZ := Lib.hid (show B ≤ w2.heap.size by have := HG2.out.size; omega)
      have HFAR := Lib.hid (fun (w4 : World) (hg4 : ((w2.alloc (.cells #[.int .i64 y.a, .int .i64 y.b, .int .u64 (y.c : Int)] 27)).alloc (.cells #[.int .i64 y.a, .int .i64 y.b, .int .u64 (y.c : Int)] 27)).grownBy w4 x.v.ownBlock) => far_read (o := (.cells #[.int .i64 y.a, .int .i64 y.b, .int .u64 (y.c : Int)] 27)) (by have := h_lo HCU3.out; exact this) hCB HGR.out HG.out HG2.out HCU2.out HBE.out hg4)
      have HSRC := Lib.hid (show ∀ j u, (kNm.cells [y])[j]? = some u → ((w2.alloc (.cells #[.int .i64 y.a, .int .i64 y.b, .int .u64 (y.c : Int)] 27)).alloc (.cells #[.int .i64 y.a, .int .i64 y.b, .int .u64 (y.c : Int)] 27)).cell? ((⟨w2.heap.size + 1, 0, none⟩ : Addr).add j) = some u from fun j u hu => by
        rw [kNm.cells_one] at hu
        have h5 := cell_new (w2.alloc (.cells #[.int .i64 y.a, .int .i64 y.b, .int .u64 (y.c : Int)] 27)) #[.int .i64 y.a, .int .i64 y.b, .int .u64 (y.c : Int)] 27 j u hu
        rwa [show (w2.alloc (.cells #[.int .i64 y.a, .int .i64 y.b, .int .u64 (y.c : Int)] 27)).heap.size = w2.heap.size + 1 from by simp] at h5)
      have hEr := Lib.hid (in_err HCU3.out)
      go_wp2_with fail
      refine (hEr.out).mono ?_
      rintro x3 w3 ⟨rfl, rfl⟩
      clear hEr
      by_cases hq0 : e2 = 0
      · have HE2 := Lib.hid hq0
        have hq : (e2 != 0) = false := by rw [hq0]; rfl
        have hq1 : (e2 == 0) = true := by rw [hq0]; rfl
        clear hq0
        go_wp2_with (at_builtin; go_loud (refine wpList_push1 ki_nm rfl _ _ rfl B x (HGRN.out _) HXV.out _ 1 1 [y] rfl rfl (by omega) HSRC.out (by have := HL.out; simp only [List.length_singleton]; omega) (by have := HSZ.out; simp; omega) ?_; intro z w4 hz hgr4 hgw4 hown4; have HZ := Lib.hid hz; have HGR4 := Lib.hid hgr4; have HGW4 := Lib.hid hgw4; have HOW4 := Lib.hid hown4; clear hz hgr4 hgw4 hown4))
        have hsz4 : z.l.length = L + 1 := by rw [HZ.out, List.length_append, ← HL.out]; rfl
        go_roundw
        case rel =>
          have hfar := HFAR.out _ HGW4.out
          refine ⟨z, k2, by go_num, by rw [hsz4]; go_num, by rw [hsz4]; exact hc, HGR4.out, ?_, ?_, fun _ => ?_, ?_⟩
          · intro y' hy'
            rw [HZ.out] at hy'
            rcases List.mem_append.1 hy' with h1 | h1
            · exact HOK.out y' h1
            · rw [List.mem_singleton.1 h1]; exact HYO.out
          · have h6 := hfar.1; rw [HE2.out] at h6; exact h6
          · have h5 := HREP.out.step (by skip; rw [← HL.out]; exact hc) (HE2.out ▸ HROK.out)
            rw [HZ.out]
            exact h5
          · exact hfar.2
        case measure => simp [intOf]; omega
      · have HE2 := Lib.hid hq0
        have hq : (e2 != 0) = true := by rw [bne_iff_ne]; exact hq0
        have hq1 : (e2 == 0) = false := by rw [beq_eq_false_iff_ne]; exact hq0
        clear hq0
        go_wp2
        go_ret
        exact ⟨Ls.nil, rfl, Lz.empty _ _, ⟨Nat.zero_le _, fun _ hy => nomatch hy⟩, k2, e2, HCU3.out, each_bad HN.out HE1.out HK0.out HREP.out (by skip; rw [← HL.out]; exact hc) HE2.out HROK.out, HG3.out⟩
    · have hxe : x.l.length = n := by omega
      have HGR := Lib.hid hgr
      have HOK := Lib.hid hok
      have HG := Lib.hid hg
      have HREP := Lib.hid hrep
      have HCU := Lib.hid hcu
      have HXE := Lib.hid hxe
      obtain ⟨xv, hxv⟩ : ∃ xv, xv = x.v := ⟨_, rfl⟩
      have HXV := Lib.hid hxv
      rw [hxe, ← hxv]
      clear hgr hok hg hrep hcu hxe hxv hc HC1 HG1
      go_wp2
      go_ret
      exact ⟨x, congrArg Ending.returned HXV.out, HGR.out.lz (fun k hk => hk), ⟨by have := HXE.out; omega, HOK.out⟩, k1, e1, HCU.out, each_done HN.out (fun c => HN0.out (by rw [HE1.out]; exact c)) HE1.out HK0.out HREP.out (by skip; exact HXE.out), HG.out⟩

set_option maxHeartbeats 2000000 in
theorem reach_u64 {lo C : Nat} {l : List UInt8} {k : Nat} {e : Int} {w : World} (h : Cu lo 165 w C l k e) :
    Calls Tryz.prog 142 #[.pointer (some ⟨C, 0, none⟩), .func (.func 62) #[.pointer (some ⟨C, 0, none⟩)] #[]] w fun x w' => ∃ v : Ls Nat, x = .returned (.slice v.A v.l.length v.c) ∧ Lz kU64 (Til w.heap.size) w' v ∧ okEach u64 v.l ∧ Rdd (each pNum) lo C l k e w w' (v.l) := by
  have hm := in_many 1000 (by omega) (by omega) h
  obtain ⟨n, hn, hn1, hn0⟩ := many_n e (l.drop k)
  obtain ⟨e1, he1⟩ : ∃ e1, e1 = (Pk.stp 0 e (pMany 1000 (l.drop k))).e := ⟨_, rfl⟩
  obtain ⟨k0, hk0⟩ : ∃ k0, k0 = k + (Pk.stp 0 e (pMany 1000 (l.drop k))).n := ⟨_, rfl⟩
  rw [← he1, ← hk0, show i64v (Pk.stp 0 e (pMany 1000 (l.drop k))).v = .int .i64 (n : Int) from by rw [hn]; rfl] at hm
  rw [← he1] at hn0
  obtain ⟨B, hBe⟩ : ∃ B, B = w.heap.size := ⟨_, rfl⟩
  have hCB : C < B := by rw [hBe]; exact h.lt
  rw [← hBe]
  have HM := Lib.hid hm
  have HN := Lib.hid hn
  have HE1 := Lib.hid he1
  have HK0 := Lib.hid hk0
  have HN0 := Lib.hid hn0
  have HBE := Lib.hid hBe
  clear hm hn he1 hk0 hn0 h hBe
  go_enter Tryz.func142, Tryz.ntmps142
  go_wp2_with fail
  refine (HM.out).mono ?_
  rintro x w1 ⟨rfl, hcu1, hg1⟩
  have HC1 := Lib.hid hcu1
  have HG1 := Lib.hid hg1
  clear hcu1 hg1 HM
  go_wp2
  go_loopw [5, 6, 9] (fun lv _ i wr => ∃ (x : Ls Nat) (k1 : Nat), lv = x.v ∧ i = .int .i64 (x.l.length : Int) ∧ x.l.length ≤ n ∧ Gr kU64 B wr x ∧ (∀ y ∈ x.l, u64 y) ∧ Cu lo 165 wr C l k1 e1 ∧ (e1 = 0 → Rep pNum l k0 n (x.l) k1 0) ∧ w.grownBy wr (some C)) (fun _ _ i _ => n - (intOf i).toNat)
  case atStart => exact ⟨Ls.nil, k0, rfl, rfl, Nat.zero_le _, Gr.nil B w1, (fun _ hy => nomatch hy), HC1.out, fun _ => Rep.zero _ l k0 n 0, HG1.out⟩
  case round =>
    obtain ⟨x, k1, rfl, rfl, hxn, hgr, hok, hcu, hrep, hg⟩ := hrel
    have hBw : B ≤ wr.heap.size := by have := hg.size; have := HBE.out; omega
    by_cases hc : x.l.length < n
    · have he0 : e1 = 0 := by
        by_cases c : e1 = 0
        · exact c
        · have := HN0.out c; omega
      subst he0
      have HREP := Lib.hid (hrep rfl)
      have HGR := Lib.hid hgr
      have HOK := Lib.hid hok
      have HG := Lib.hid hg
      have HRD := Lib.hid (rd_num hcu)
      obtain ⟨L, hL⟩ : ∃ L, L = x.l.length := ⟨_, rfl⟩
      have HL := Lib.hid hL
      obtain ⟨xv, hxv⟩ : ∃ xv, xv = x.v := ⟨_, rfl⟩
      have HXV := Lib.hid hxv
      rw [← hL] at hc hxn ⊢
      rw [← hxv]
      clear hrep hgr hok hcu hg hL hxv HC1 HG1
      go_wp2_with (go_at_call 62; refine (HRD.out).mono ?_; rintro x2 w2 ⟨y, rfl, hyo, k2, e2, hcu2, hrok, hg2⟩; have HYO := Lib.hid hyo; have HCU2 := Lib.hid hcu2; have HROK := Lib.hid hrok; have HG2 := Lib.hid hg2; clear hyo hcu2 hrok hg2 HRD)
      have HCU3 := Lib.hid HCU2.out
      have HG3 := Lib.hid (HG.out.trans HG2.out)
      have HGRN := Lib.hid (fun (o : Obj) => Gr.below (HGR.out.grown HG2.out (fun g eg => by injection eg with eg; omega)) ((Below.refl _ w2).alloc (Nat.le_refl _) o))
      have HSZ := Lib.hid (show B ≤ w2.heap.size by have := HG2.out.size; omega)
      have HFAR := Lib.hid (fun (w4 : World) (hg4 : (w2.alloc (.cells #[.int .u64 (y : Int)] 25)).grownBy w4 x.v.ownBlock) => far_read1 (o := (.cells #[.int .u64 (y : Int)] 25)) hCB HGR.out HG.out HG2.out HCU2.out HBE.out hg4)
      have HSRC := Lib.hid (show ∀ j u, (kU64.cells [y])[j]? = some u → (w2.alloc (.cells #[.int .u64 (y : Int)] 25)).cell? ((⟨w2.heap.size, 0, none⟩ : Addr).add j) = some u from fun j u hu => by
        rw [kU64.cells_one] at hu
        exact cell_new w2 #[.int .u64 (y : Int)] 25 j u hu)
      have hEr := Lib.hid (in_err HCU2.out)
      go_wp2_with fail
      refine (hEr.out).mono ?_
      rintro x3 w3 ⟨rfl, rfl⟩
      clear hEr
      by_cases hq0 : e2 = 0
      · have HE2 := Lib.hid hq0
        have hq : (e2 != 0) = false := by rw [hq0]; rfl
        have hq1 : (e2 == 0) = true := by rw [hq0]; rfl
        clear hq0
        go_wp2_with (at_builtin; go_loud (refine wpList_push1 ki_u64 rfl _ _ rfl B x (HGRN.out _) HXV.out _ 1 1 [y] rfl rfl (by omega) HSRC.out (by have := HL.out; simp only [List.length_singleton]; omega) (by have := HSZ.out; simp; omega) ?_; intro z w4 hz hgr4 hgw4 hown4; have HZ := Lib.hid hz; have HGR4 := Lib.hid hgr4; have HGW4 := Lib.hid hgw4; have HOW4 := Lib.hid hown4; clear hz hgr4 hgw4 hown4))
        have hsz4 : z.l.length = L + 1 := by rw [HZ.out, List.length_append, ← HL.out]; rfl
        go_roundw
        case rel =>
          have hfar := HFAR.out _ HGW4.out
          refine ⟨z, k2, by go_num, by rw [hsz4]; go_num, by rw [hsz4]; exact hc, HGR4.out, ?_, ?_, fun _ => ?_, ?_⟩
          · intro y' hy'
            rw [HZ.out] at hy'
            rcases List.mem_append.1 hy' with h1 | h1
            · exact HOK.out y' h1
            · rw [List.mem_singleton.1 h1]; exact HYO.out
          · have h6 := hfar.1; rw [HE2.out] at h6; exact h6
          · have h5 := HREP.out.step (by skip; rw [← HL.out]; exact hc) (HE2.out ▸ HROK.out)
            rw [HZ.out]
            exact h5
          · exact hfar.2
        case measure => simp [intOf]; omega
      · have HE2 := Lib.hid hq0
        have hq : (e2 != 0) = true := by rw [bne_iff_ne]; exact hq0
        have hq1 : (e2 == 0) = false := by rw [beq_eq_false_iff_ne]; exact hq0
        clear hq0
        go_wp2
        go_ret
        exact ⟨Ls.nil, rfl, Lz.empty _ _, ⟨Nat.zero_le _, fun _ hy => nomatch hy⟩, k2, e2, HCU3.out, each_bad HN.out HE1.out HK0.out HREP.out (by skip; rw [← HL.out]; exact hc) HE2.out HROK.out, HG3.out⟩
    · have hxe : x.l.length = n := by omega
      have HGR := Lib.hid hgr
      have HOK := Lib.hid hok
      have HG := Lib.hid hg
      have HREP := Lib.hid hrep
      have HCU := Lib.hid hcu
      have HXE := Lib.hid hxe
      obtain ⟨xv, hxv⟩ : ∃ xv, xv = x.v := ⟨_, rfl⟩
      have HXV := Lib.hid hxv
      rw [hxe, ← hxv]
      clear hgr hok hg hrep hcu hxe hxv hc HC1 HG1
      go_wp2
      go_ret
      exact ⟨x, congrArg Ending.returned HXV.out, HGR.out.lz (fun k hk => hk), ⟨by have := HXE.out; omega, HOK.out⟩, k1, e1, HCU.out, each_done HN.out (fun c => HN0.out (by rw [HE1.out]; exact c)) HE1.out HK0.out HREP.out (by skip; exact HXE.out), HG.out⟩

set_option maxHeartbeats 2000000 in
theorem reach_int {lo C : Nat} {l : List UInt8} {k : Nat} {e : Int} {w : World} (h : Cu lo 165 w C l k e) :
    Calls Tryz.prog 143 #[.pointer (some ⟨C, 0, none⟩), .func (.func 135) #[.pointer (some ⟨C, 0, none⟩)] #[]] w fun x w' => ∃ v : Ls Int, x = .returned (.slice v.A v.l.length v.c) ∧ Lz kInt (Til w.heap.size) w' v ∧ okEach i64 v.l ∧ Rdd (each pInt) lo C l k e w w' (v.l) := by
  have hm := in_many 1000 (by omega) (by omega) h
  obtain ⟨n, hn, hn1, hn0⟩ := many_n e (l.drop k)
  obtain ⟨e1, he1⟩ : ∃ e1, e1 = (Pk.stp 0 e (pMany 1000 (l.drop k))).e := ⟨_, rfl⟩
  obtain ⟨k0, hk0⟩ : ∃ k0, k0 = k + (Pk.stp 0 e (pMany 1000 (l.drop k))).n := ⟨_, rfl⟩
  rw [← he1, ← hk0, show i64v (Pk.stp 0 e (pMany 1000 (l.drop k))).v = .int .i64 (n : Int) from by rw [hn]; rfl] at hm
  rw [← he1] at hn0
  obtain ⟨B, hBe⟩ : ∃ B, B = w.heap.size := ⟨_, rfl⟩
  have hCB : C < B := by rw [hBe]; exact h.lt
  rw [← hBe]
  have HM := Lib.hid hm
  have HN := Lib.hid hn
  have HE1 := Lib.hid he1
  have HK0 := Lib.hid hk0
  have HN0 := Lib.hid hn0
  have HBE := Lib.hid hBe
  clear hm hn he1 hk0 hn0 h hBe
  go_enter Tryz.func143, Tryz.ntmps143
  go_wp2_with fail
  refine (HM.out).mono ?_
  rintro x w1 ⟨rfl, hcu1, hg1⟩
  have HC1 := Lib.hid hcu1
  have HG1 := Lib.hid hg1
  clear hcu1 hg1 HM
  go_wp2
  go_loopw [5, 6, 9] (fun lv _ i wr => ∃ (x : Ls Int) (k1 : Nat), lv = x.v ∧ i = .int .i64 (x.l.length : Int) ∧ x.l.length ≤ n ∧ Gr kInt B wr x ∧ (∀ y ∈ x.l, i64 y) ∧ Cu lo 165 wr C l k1 e1 ∧ (e1 = 0 → Rep pInt l k0 n (x.l) k1 0) ∧ w.grownBy wr (some C)) (fun _ _ i _ => n - (intOf i).toNat)
  case atStart => exact ⟨Ls.nil, k0, rfl, rfl, Nat.zero_le _, Gr.nil B w1, (fun _ hy => nomatch hy), HC1.out, fun _ => Rep.zero _ l k0 n 0, HG1.out⟩
  case round =>
    obtain ⟨x, k1, rfl, rfl, hxn, hgr, hok, hcu, hrep, hg⟩ := hrel
    have hBw : B ≤ wr.heap.size := by have := hg.size; have := HBE.out; omega
    by_cases hc : x.l.length < n
    · have he0 : e1 = 0 := by
        by_cases c : e1 = 0
        · exact c
        · have := HN0.out c; omega
      subst he0
      have HREP := Lib.hid (hrep rfl)
      have HGR := Lib.hid hgr
      have HOK := Lib.hid hok
      have HG := Lib.hid hg
      have HRD := Lib.hid (rd_int hcu)
      obtain ⟨L, hL⟩ : ∃ L, L = x.l.length := ⟨_, rfl⟩
      have HL := Lib.hid hL
      obtain ⟨xv, hxv⟩ : ∃ xv, xv = x.v := ⟨_, rfl⟩
      have HXV := Lib.hid hxv
      rw [← hL] at hc hxn ⊢
      rw [← hxv]
      clear hrep hgr hok hcu hg hL hxv HC1 HG1
      go_wp2_with (go_at_call 135; refine (HRD.out).mono ?_; rintro x2 w2 ⟨y, rfl, hyo, k2, e2, hcu2, hrok, hg2⟩; have HYO := Lib.hid hyo; have HCU2 := Lib.hid hcu2; have HROK := Lib.hid hrok; have HG2 := Lib.hid hg2; clear hyo hcu2 hrok hg2 HRD)
      have HCU3 := Lib.hid HCU2.out
      have HG3 := Lib.hid (HG.out.trans HG2.out)
      have HGRN := Lib.hid (fun (o : Obj) => Gr.below (HGR.out.grown HG2.out (fun g eg => by injection eg with eg; omega)) ((Below.refl _ w2).alloc (Nat.le_refl _) o))
      have HSZ := Lib.hid (show B ≤ w2.heap.size by have := HG2.out.size; omega)
      have HFAR := Lib.hid (fun (w4 : World) (hg4 : (w2.alloc (.cells #[.int .i64 y] 3)).grownBy w4 x.v.ownBlock) => far_read1 (o := (.cells #[.int .i64 y] 3)) hCB HGR.out HG.out HG2.out HCU2.out HBE.out hg4)
      have HSRC := Lib.hid (show ∀ j u, (kInt.cells [y])[j]? = some u → (w2.alloc (.cells #[.int .i64 y] 3)).cell? ((⟨w2.heap.size, 0, none⟩ : Addr).add j) = some u from fun j u hu => by
        rw [kInt.cells_one] at hu
        exact cell_new w2 #[.int .i64 y] 3 j u hu)
      have hEr := Lib.hid (in_err HCU2.out)
      go_wp2_with fail
      refine (hEr.out).mono ?_
      rintro x3 w3 ⟨rfl, rfl⟩
      clear hEr
      by_cases hq0 : e2 = 0
      · have HE2 := Lib.hid hq0
        have hq : (e2 != 0) = false := by rw [hq0]; rfl
        have hq1 : (e2 == 0) = true := by rw [hq0]; rfl
        clear hq0
        go_wp2_with (at_builtin; go_loud (refine wpList_push1 ki_int rfl _ _ rfl B x (HGRN.out _) HXV.out _ 1 1 [y] rfl rfl (by omega) HSRC.out (by have := HL.out; simp only [List.length_singleton]; omega) (by have := HSZ.out; simp; omega) ?_; intro z w4 hz hgr4 hgw4 hown4; have HZ := Lib.hid hz; have HGR4 := Lib.hid hgr4; have HGW4 := Lib.hid hgw4; have HOW4 := Lib.hid hown4; clear hz hgr4 hgw4 hown4))
        have hsz4 : z.l.length = L + 1 := by rw [HZ.out, List.length_append, ← HL.out]; rfl
        go_roundw
        case rel =>
          have hfar := HFAR.out _ HGW4.out
          refine ⟨z, k2, by go_num, by rw [hsz4]; go_num, by rw [hsz4]; exact hc, HGR4.out, ?_, ?_, fun _ => ?_, ?_⟩
          · intro y' hy'
            rw [HZ.out] at hy'
            rcases List.mem_append.1 hy' with h1 | h1
            · exact HOK.out y' h1
            · rw [List.mem_singleton.1 h1]; exact HYO.out
          · have h6 := hfar.1; rw [HE2.out] at h6; exact h6
          · have h5 := HREP.out.step (by skip; rw [← HL.out]; exact hc) (HE2.out ▸ HROK.out)
            rw [HZ.out]
            exact h5
          · exact hfar.2
        case measure => simp [intOf]; omega
      · have HE2 := Lib.hid hq0
        have hq : (e2 != 0) = true := by rw [bne_iff_ne]; exact hq0
        have hq1 : (e2 == 0) = false := by rw [beq_eq_false_iff_ne]; exact hq0
        clear hq0
        go_wp2
        go_ret
        exact ⟨Ls.nil, rfl, Lz.empty _ _, ⟨Nat.zero_le _, fun _ hy => nomatch hy⟩, k2, e2, HCU3.out, each_bad HN.out HE1.out HK0.out HREP.out (by skip; rw [← HL.out]; exact hc) HE2.out HROK.out, HG3.out⟩
    · have hxe : x.l.length = n := by omega
      have HGR := Lib.hid hgr
      have HOK := Lib.hid hok
      have HG := Lib.hid hg
      have HREP := Lib.hid hrep
      have HCU := Lib.hid hcu
      have HXE := Lib.hid hxe
      obtain ⟨xv, hxv⟩ : ∃ xv, xv = x.v := ⟨_, rfl⟩
      have HXV := Lib.hid hxv
      rw [hxe, ← hxv]
      clear hgr hok hg hrep hcu hxe hxv hc HC1 HG1
      go_wp2
      go_ret
      exact ⟨x, congrArg Ending.returned HXV.out, HGR.out.lz (fun k hk => hk), ⟨by have := HXE.out; omega, HOK.out⟩, k1, e1, HCU.out, each_done HN.out (fun c => HN0.out (by rw [HE1.out]; exact c)) HE1.out HK0.out HREP.out (by skip; exact HXE.out), HG.out⟩

end Ot
end Go.Proofs.YtkicjjcangkneaaGreatDoor
