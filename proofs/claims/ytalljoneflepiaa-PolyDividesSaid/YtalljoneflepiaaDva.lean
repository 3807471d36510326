/-
  Package poly's divide: quotient and rest are those of a polynomial division, the rest in the dividend's own memory. For trimmed divisors that are not 0, and up to a million numbers.
-/
import Derived.Test.YtalljoneflepiaaDvp
import Derived.Test.YtalljoneflepiaaPrf
import Derived.Test.YtalljoneflepiaaRnd
import Derived.Laws.ResultCell
namespace Go.Proofs.Ytalljoneflepiaa
open Go.RowKit Go.Shelf
attribute [local go_sem] Oper.semAt_some

/-- What divide tells: the quotient in memory of its own, the rest in the dividend's. -/
def Divd (w : World) (ga la ca : Nat) (La b : List Nat) (e : Ending) (w' : World) : Prop :=
  ∃ gq nq Lq La' nr, e = .returned (.tuple #[.slice (some ⟨gq, 0, none⟩) nq nq, .slice (some ⟨ga, 0, none⟩) nr ca]) ∧ w.heap.size ≤ gq ∧ Ar w' gq Lq ∧ Lq.length = nq ∧ Pl.Sm Lq ∧
    Ar w' ga La' ∧ La'.length = La.length ∧ nr ≤ la ∧ Pl.Sm La' ∧ Pl.Tr (La'.take nr) ∧ Pl.DM (Pl.co (La.take la)) (Pl.co b) (Pl.co Lq) (Pl.co (La'.take nr)) ∧ (Pl.Tr (La.take la) → Pl.Tr Lq)

theorem Seen.init {n : Nat} {Q : Nat → Nat → Prop} {pre : List (Pr n)} {x : Pr n} (h : Seen n Q (pre ++ [x])) : Seen n Q pre ∧ x.idx + (pre.length + 1) = n := by
  refine ⟨⟨by have := h.1; simp at this; omega, fun j y hj => h.2 j y (by rw [List.getElem?_append_left (List.getElem?_eq_some_iff.1 hj).1]; exact hj)⟩, (h.2 pre.length x (by rw [List.getElem?_concat_length])).1⟩

theorem run_cell_tmp {fn : Func} {p u : Tmp} (h : fn.results = #[.cell p 22, .tmp u]) (tmps : Array Value) (w : World) (a : Addr) (v : Value) (ha : tmps.getD p undef = .pointer (some a)) (hc : w.cell? a = some v) :
    (results fn tmps).run Try.prog w = .ok (.tuple #[v, tmps.getD u undef]) w := by
  rw [results_cell_tmp h, ha]
  generalize tmps.getD u undef = x
  clear ha
  go_simp

theorem Fx.drew {n : Nat} {X : Nat → Prop} {a w : World} (h : Fx n X a w) : Fx n X a w.drew := ⟨h.os, h.tape, h.output, h.size, h.block⟩
/-- A block is a list of nq numbers. -/
def Lst (g nq : Nat) (W : World) : Prop := ∃ L, Ar W g L ∧ L.length = nq ∧ Pl.Sm L
def Kq (n gq ga nq : Nat) (W W' : World) : Prop := Fx n (fun k => k = ga ∨ k = gq) W W' ∧ (Lst gq nq W → Lst gq nq W')
theorem Kq.trans {n gq ga nq : Nat} {A B C : World} (h : Kq n gq ga nq A B) (k : Kq n gq ga nq B C) : Kq n gq ga nq A C := ⟨h.1.trans k.1, fun x => k.2 (h.2 x)⟩
theorem Kq.put {n gq ga nq : Nat} {w : World} (hn : n ≤ w.heap.size) (hq : gq < w.heap.size) (W : World) (l : Nat) (o o' : Obj) (hl : w.heap.size ≤ l) (h1 : W.heap[l]? = some o) (h2 : o.isCells = false) (h3 : o.isWalk = false) : Kq n gq ga nq W (W.putObj l o') :=
  ⟨Fx.k_b hn W l o o' hl h1 h2 h3, fun ⟨L, a, b, c⟩ => ⟨L, (World.putObj_heap_other (by omega)).trans a, b, c⟩⟩

theorem div_cells {w w5 : World} {v1 v2 v3 v4 : Value} {t4 : TypeId} (hb5 : Below ((((w.alloc (.cells #[v1] 22)).alloc (.cells #[v2] 22)).alloc (.cells #[v3] 22)).alloc (.cells #[v4] t4)).heap.size ((((w.alloc (.cells #[v1] 22)).alloc (.cells #[v2] 22)).alloc (.cells #[v3] 22)).alloc (.cells #[v4] t4)) w5) :
    w5.cell? ⟨w.heap.size, 0, none⟩ = some v1 ∧ w5.cell? ⟨w.heap.size + 1, 0, none⟩ = some v2 ∧ (w5.cell? ⟨w.heap.size + 1 + 1, 0, none⟩ = some v3 ∧ w5.frozen? ⟨w.heap.size + 1 + 1, 0, none⟩ = false) ∧ w5.cell? ⟨w.heap.size + 1 + 1 + 1, 0, none⟩ = some v4 ∧ Below w.heap.size w w5 ∧ w.heap.size + 4 ≤ w5.heap.size := by
  have hA4 := cell_alloc_l (.cells #[v4] t4) (cell_alloc_l (.cells #[v3] 22) (cell_alloc_l (.cells #[v2] 22) (cell_new_l w v1 22).1))
  have hB4 := cell_alloc_l (.cells #[v4] t4) (cell_alloc_l (.cells #[v3] 22) (cell_new_l (w.alloc (.cells #[v1] 22)) v2 22).1)
  have hQ4 := cell_alloc_l (.cells #[v4] t4) (cell_new_l ((w.alloc (.cells #[v1] 22)).alloc (.cells #[v2] 22)) v3 22).1
  have hQf4 := frozen_alloc_l (.cells #[v4] t4) (cell_new_l ((w.alloc (.cells #[v1] 22)).alloc (.cells #[v2] 22)) v3 22).1 (cell_new_l ((w.alloc (.cells #[v1] 22)).alloc (.cells #[v2] 22)) v3 22).2
  have hD4 := (cell_new_l (((w.alloc (.cells #[v1] 22)).alloc (.cells #[v2] 22)).alloc (.cells #[v3] 22)) v4 t4).1
  have hb4 : Below w.heap.size w ((((w.alloc (.cells #[v1] 22)).alloc (.cells #[v2] 22)).alloc (.cells #[v3] 22)).alloc (.cells #[v4] t4)) :=
    ((((Below.refl _ w).alloc (Nat.le_refl _) _).alloc (by simp) _).alloc (by simp; omega) _).alloc (by simp; omega) _
  have hs4 : ((((w.alloc (.cells #[v1] 22)).alloc (.cells #[v2] 22)).alloc (.cells #[v3] 22)).alloc (.cells #[v4] t4)).heap.size = w.heap.size + 4 := by simp
  simp only [World.size_alloc] at hA4 hB4 hQ4 hQf4 hD4
  rw [hs4] at hb5
  refine ⟨(hb5.cell (p := ⟨w.heap.size, 0, none⟩) (by show w.heap.size < w.heap.size + 4; omega)).trans hA4, (hb5.cell (p := ⟨w.heap.size + 1, 0, none⟩) (by show w.heap.size + 1 < w.heap.size + 4; omega)).trans hB4,
    ⟨(hb5.cell (p := ⟨w.heap.size + 1 + 1, 0, none⟩) (by show w.heap.size + 1 + 1 < w.heap.size + 4; omega)).trans hQ4, (hb5.frozen (p := ⟨w.heap.size + 1 + 1, 0, none⟩) (by show w.heap.size + 1 + 1 < w.heap.size + 4; omega)).trans hQf4⟩,
    (hb5.cell (p := ⟨w.heap.size + 1 + 1 + 1, 0, none⟩) (by show w.heap.size + 1 + 1 + 1 < w.heap.size + 4; omega)).trans hD4, hb4.trans (hb5.mono (by omega)), ?_⟩
  have := hb5.size
  omega

theorem div_cells2 {w w5 w8 : World} {B y nq : Nat} {v1 v2 v3 v4 vq : Value} (hA : w5.cell? ⟨B, 0, none⟩ = some v1) (hB : w5.cell? ⟨B + 1, 0, none⟩ = some v2) (hQ : w5.cell? ⟨B + 1 + 1, 0, none⟩ = some v3) (hQf : w5.frozen? ⟨B + 1 + 1, 0, none⟩ = false) (hD : w5.cell? ⟨B + 1 + 1 + 1, 0, none⟩ = some v4)
    (hb : Below B w w5) (hs : B + 4 ≤ w5.heap.size) (hw : w8 = ((((w5.alloc (.cells #[.int .u64 (y : Int)] 23)).alloc (.cells (u64s (List.replicate nq 0)).toArray 23)).setCell ⟨B + 1 + 1, 0, none⟩ vq).alloc (.cells #[vq] 22))) :
    w8.cell? ⟨B, 0, none⟩ = some v1 ∧ w8.cell? ⟨B + 1, 0, none⟩ = some v2 ∧ (w8.cell? ⟨B + 1 + 1, 0, none⟩ = some vq ∧ w8.frozen? ⟨B + 1 + 1, 0, none⟩ = false) ∧ w8.cell? ⟨B + 1 + 1 + 1, 0, none⟩ = some v4 ∧
      w8.cell? ⟨w5.heap.size, 0, none⟩ = some (.int .u64 (y : Int)) ∧ Ar w8 (w5.heap.size + 1) (List.replicate nq 0) ∧ w8.cell? ⟨w5.heap.size + 1 + 1, 0, none⟩ = some vq ∧ Below B w w8 ∧ w8.heap.size = w5.heap.size + 3 := by
  subst hw
  have h5 := (cell_new_l w5 (.int .u64 (y : Int)) 23).1
  have h6 := ar_new (w5.alloc (.cells #[.int .u64 (y : Int)] 23)) (List.replicate nq 0)
  have h7 := (cell_new_l (((w5.alloc (.cells #[.int .u64 (y : Int)] 23)).alloc (.cells (u64s (List.replicate nq 0)).toArray 23)).setCell ⟨B + 1 + 1, 0, none⟩ vq) vq 22).1
  have hq := cell_alloc_l (.cells (u64s (List.replicate nq 0)).toArray 23) (cell_alloc_l (.cells #[.int .u64 (y : Int)] 23) hQ)
  have hqf := frozen_alloc_l (.cells (u64s (List.replicate nq 0)).toArray 23) (cell_alloc_l (.cells #[.int .u64 (y : Int)] 23) hQ) (frozen_alloc_l (.cells #[.int .u64 (y : Int)] 23) hQ hQf)
  have hss : (((w5.alloc (.cells #[.int .u64 (y : Int)] 23)).alloc (.cells (u64s (List.replicate nq 0)).toArray 23)).setCell ⟨B + 1 + 1, 0, none⟩ vq).heap.size = w5.heap.size + 1 + 1 := by simp [World.setCell]
  rw [hss] at h7
  rw [World.size_alloc] at h6
  refine ⟨cell_alloc_l _ ((cell_other _ vq (by omega)).trans (cell_alloc_l _ (cell_alloc_l _ hA))), cell_alloc_l _ ((cell_other _ vq (by omega)).trans (cell_alloc_l _ (cell_alloc_l _ hB))),
    ⟨cell_alloc_l _ (World.cell?_setCell_same' _ _ _ (by rw [hq]; rfl)), frozen_alloc_l _ (World.cell?_setCell_same' _ _ _ (by rw [hq]; rfl)) (by rw [World.frozen?_setCell]; exact hqf)⟩,
    cell_alloc_l _ ((cell_other _ vq (by omega)).trans (cell_alloc_l _ (cell_alloc_l _ hD))), cell_alloc_l _ ((cell_other _ vq (by omega)).trans (cell_alloc_l _ h5)),
    ?_, h7, ?_, by rw [World.size_alloc, hss]⟩
  · refine (Ar.other h6 (by omega)).below (n := w5.heap.size + 1 + 1) ((Below.refl _ _).alloc (by rw [hss]; exact Nat.le_refl _) _) (by omega)
  · exact (((((hb.alloc (by omega) _).alloc (by simp; omega) _).setCell (by show B ≤ B + 1 + 1; omega) _).alloc (by rw [hss]; omega) _))

set_option maxRecDepth 100000 in
set_option maxHeartbeats 4000000 in
theorem divide_some (ga la ca m lb cb : Nat) (La : List Nat) (B2 : Option Addr) (b : List Nat) (w : World) (hg : Ar w ga La) (hL : Pl.Sm La) (hla : la ≤ La.length) (hca : la ≤ ca) (hl6 : la ≤ 1000000)
    (hm : m = lb + 1) (hlb : m = b.length) (hb6 : m ≤ 1000000) (ht : Pl.Tr b) (hB2 : Rq ga w B2 (u64s b)) :
    Calls Try.prog 51 #[.slice (some ⟨ga, 0, none⟩) la ca, .slice B2 m cb] w fun e w' => Divd w ga la ca La b e w' ∧ w.grownBy w' (some ga) := by
  have hm1 : (m : Int) - 1 = (lb : Int) := by omega
  have hm0 : ((m : Int) == 0) = false := by rw [beq_eq_false_iff_ne]; omega
  obtain ⟨bb, ob, rfl, hbne, hblt, hbc⟩ := hB2 (by rw [u64s_len, ← hlb]; omega)
  have c1 := hbc lb _ (u64s_at (by rw [← hlb]; omega))
  have hx := get_big ht.1.big lb
  have hdg : Pl.Dg (Pl.co b) lb := ht.dg (by rw [← hlb, hm])
  obtain ⟨x, hxe⟩ : ∃ x, x = b[lb]?.getD 0 := ⟨_, rfl⟩
  rw [← hxe] at c1 hx
  have hx0 : Fld.to x = Pl.co b lb := by rw [hxe]; rfl
  have hgl := hg.lt
  obtain ⟨B, hBe⟩ : ∃ B, B = w.heap.size := ⟨_, rfl⟩
  have hinv := fun W => inv_any x W hx
  have hil := Fld.pow_lt x 2305843009213693949
  have hito : Fld.to (Fld.pow x 2305843009213693949) = Fld.iv (Fld.to x) := Fld.to_powI _
  obtain ⟨y, hy⟩ : ∃ y, y = Fld.pow x 2305843009213693949 := ⟨_, rfl⟩
  rw [← hy] at hil hito
  simp only [← hy] at hinv
  have HG := Lib.hid hg
  have HL := Lib.hid hL
  have HLB := Lib.hid hlb
  have HT := Lib.hid ht
  have HBC := Lib.hid hbc
  have HDG := Lib.hid hdg
  have HX := Lib.hid hx0
  have HI := Lib.hid hinv
  have HIT := Lib.hid hito
  have HM := Lib.hid hm
  clear hg hL hlb ht hbc hdg hx0 hinv hito hxe hy hm
  have hbt4 := cell_alloc_l (.cells #[.int .i64 (lb : Int)] 3) (cell_alloc_l (.cells #[.slice none 0 0] 22) (cell_alloc_l (.cells #[.slice (some ⟨bb, ob, none⟩) m cb] 22) (cell_alloc_l (.cells #[.slice (some ⟨ga, 0, none⟩) la ca] 22) c1)))
  obtain ⟨nq, hnq⟩ : ∃ nq, nq = la - lb := ⟨_, rfl⟩
  obtain ⟨z, hz⟩ : ∃ z : Int, z = (la : Int) - (lb : Int) := ⟨_, rfl⟩
  have hz1 : (la : Int) - (lb : Int) = z := hz.symm
  have hif : (if 0 < z then z else 0) = (nq : Int) := by split <;> omega
  have hmk := mk64 nq (by omega)
  have HNQ := Lib.hid hnq
  clear c1 hnq hz
  refine (callsIn_wide (n := 3)).1 ?_
  refine callsIn_of_wp_marks Try.func51 rfl trivial ?_ rfl
  simp only [Try.ntmps51, List.size_toArray, List.length_cons, List.length_nil, Nat.reduceAdd, Nat.reduceSub, Array.replicate_succ, Array.replicate_zero, List.push_toArray, List.append_toArray, List.nil_append, List.cons_append]
  gi_wp2_with (first
    | (refine ⟨trivial, ?_⟩; gi_at_call 57; refine (callsIn_wide.2 (HI.out _)).mono ?_; rintro e w5 ⟨rfl, hb5⟩; obtain ⟨hA5, hB5, ⟨hQ5, hQf5⟩, hD5, hb05, hs5⟩ := div_cells hb5; clear hb5 hbt4;
       have hA6 := cell_alloc_l (.cells #[.int .u64 (y : Int)] 23) hA5; have hD6 := cell_alloc_l (.cells #[.int .u64 (y : Int)] 23) hD5; have hQ7 := cell_alloc_l (.cells (u64s (List.replicate nq 0)).toArray 23) (cell_alloc_l (.cells #[.int .u64 (y : Int)] 23) hQ5);
       have hQf7 := frozen_alloc_l (.cells (u64s (List.replicate nq 0)).toArray 23) (cell_alloc_l (.cells #[.int .u64 (y : Int)] 23) hQ5) (frozen_alloc_l (.cells #[.int .u64 (y : Int)] 23) hQ5 hQf5))
    | (refine ⟨trivial, ?_⟩; gi_at_call 68; refine (back_call Fence.wide (3 - 1) trivial rfl _ _ _ _).mono ?_; rintro e w' ⟨rfl, rfl⟩))
  obtain ⟨w8, hw8⟩ : ∃ w8, w8 = ((((w5.alloc (.cells #[.int .u64 (y : Int)] 23)).alloc (.cells (u64s (List.replicate nq 0)).toArray 23)).setCell ⟨w.heap.size + 1 + 1, 0, none⟩ (.slice (some ⟨w5.heap.size + 1, 0, none⟩) nq nq)).alloc (.cells #[.slice (some ⟨w5.heap.size + 1, 0, none⟩) nq nq] 22)) := ⟨_, rfl⟩
  rw [← hw8]
  obtain ⟨gA, gB, ⟨gQ, gQf⟩, gD, gI, gq, gS, gb, gs⟩ := div_cells2 hA5 hB5 hQ5 hQf5 hD5 hb05 hs5 hw8
  clear hw8 hA5 hB5 hQ5 hQf5 hD5 hb05 hA6 hD6 hQ7 hQf7 hif hz1 hm1 hm0
  rw [← hBe] at gA gB gQ gQf gD gb hs5 hgl hblt ⊢
  obtain ⟨I5, hI5⟩ : ∃ I5, I5 = w5.heap.size := ⟨_, rfl⟩
  obtain ⟨q, hq⟩ : ∃ q, q = I5 + 1 := ⟨_, rfl⟩
  rw [← hI5] at gQ gI gq gS gs hs5 ⊢
  rw [← hq] at gQ gq gS ⊢
  have hqe : I5 + 1 + 1 = q + 1 := by omega
  skip
  have HBE := Lib.hid hBe
  have hs8 : I5 + 3 ≤ w8.heap.size := by omega
  have HQE := Lib.hid hq
  have hq1 : q + 2 = I5 + 3 := by omega
  clear hI5 hq hqe hBe hmk
  have hgB : ga < B := by omega
  have hbB : bb < B := by omega
  have hG8 := HG.out.below gb (by have := HBE.out; omega)
  have HG8 := Lib.hid hG8
  have HQ8 := Lib.hid gq
  have HA8 := Lib.hid gA
  have HB8 := Lib.hid gB
  have HC8 := Lib.hid gQ
  have HCF8 := Lib.hid gQf
  have HD8 := Lib.hid gD
  have HI8 := Lib.hid gI
  have HS8 := Lib.hid gS
  have Hb8 := Lib.hid gb
  clear hG8 gq gA gB gQ gQf gD gI gS gb gs hgl hblt
  have hfz : Lst q nq w8 := ⟨_, HQ8.out, List.length_replicate, Pl.sm_zeros nq⟩
  have hreads : ∀ W, (Fx (I5 + 3) (fun k => k = ga ∨ k = q) w8 W ∧ Lst q nq W) → Reads (q + 1) (some ⟨q, 0, none⟩) nq nq (fun _ _ => True) W := by
    rintro W ⟨hW, L, hL1, hL2, hL3⟩
    refine ⟨(hW.cell (p := ⟨q + 1, 0, none⟩) (by show q + 1 < I5 + 3; omega) (by show ¬ (q + 1 = ga ∨ q + 1 = q); omega)).trans HS8.out, fun i hi => ⟨q, 0, L[i]?.getD 0, rfl, get_big hL3.big i, trivial, ?_⟩⟩
    rw [Nat.zero_add]
    exact hL1.cell (by omega)
  have HRD := Lib.hid hreads
  clear hreads
  have hsz : la - lb = nq := HNQ.out.symm
  refine wpIn_rangeFunc_ownF rfl (by omega) (gf := 73) (lb := #[.pointer (some ⟨q + 1, 0, none⟩)]) rfl trivial (enters_of Try.func73 (by kernel_rfl) rfl)
    (back_stops (3 - 1) (by omega) (q + 1) (some ⟨q, 0, none⟩) nq nq (by omega) (fun _ _ => True) (fun W => Fx (I5 + 3) (fun k => k = ga ∨ k = q) w8 W ∧ Lst q nq W) (Kq (I5 + 3) q ga nq) HRD.out (fun W W' h k => ⟨h.1.trans k.1, k.2 h.2⟩) w8
      (fun W h => ⟨Fx.of_below h (fun k hk _ => by omega), by obtain ⟨L, a, b, c⟩ := hfz; exact ⟨L, a.below h (by omega), b, c⟩⟩))
    Kq.trans (Kq.put hs8 (by omega)) (Below.refl _ _) (fun _ => rfl)
    (fun pre W => (∃ La' Lq, Ar W ga La' ∧ La'.length = La.length ∧ Pl.Sm La' ∧ Ar W q Lq ∧ Lq.length = nq ∧ Pl.Sm Lq ∧ (Seen nq (fun _ _ => True) pre → Pl.Dk (Pl.co (La.take la)) (Pl.co b) la nq pre.length (Pl.co (La'.take la)) (Pl.co Lq))) ∧
      Fx (I5 + 3) (fun k => k = ga ∨ k = q) w8 W)
    (fun _ _ _ => False)
    (OwnFrom.and (Own.from (fun s W1 W2 row hs hg' hr => by
        obtain ⟨La', Lq, h1, h2, h3, h4, h5⟩ := hs
        exact ⟨La', Lq, blk_kept h1 hg' hr, h2, h3, blk_kept h4 hg' hr, h5⟩) _) (Fx.own hs8 hs8))
    (fun _ _ _ _ _ hs _ _ => hs)
    ⟨⟨La, _, HG8.out, rfl, HL.out, HQ8.out, List.length_replicate, Pl.sm_zeros nq, fun _ => by rw [Pl.co_zeros]; exact Pl.Dk.start ((Pl.Lt.co _).mono (by rw [List.length_take]; omega))⟩, Fx.refl _ _ _⟩
    (fun t => { tmps := #[.slice (some ⟨ga, 0, none⟩) la ca, .slice (some ⟨bb, ob, none⟩) m cb, .pointer (some ⟨B, 0, none⟩), .pointer (some ⟨B + 1, 0, none⟩), .pointer (some ⟨B + 1 + 1, 0, none⟩), .slice none 0 0, .pointer (some ⟨B + 1 + 1 + 1, 0, none⟩), .pointer (some ⟨I5, 0, none⟩), .int .i64 (t.idx : Int),
      .slice (some ⟨bb, ob, none⟩) m cb, .int .i64 m, .bool false, .slice (some ⟨bb, ob, none⟩) m cb, .int .i64 m, .int .i64 lb, .slice (some ⟨bb, ob, none⟩) m cb, .int .i64 lb, .pointer (some ⟨bb, ob + lb, none⟩), .int .u64 x, .int .u64 y, .slice (some ⟨ga, 0, none⟩) la ca, .int .i64 la, .int .i64 lb, .int .i64 z, .int .i64 nq,
      .slice (some ⟨q, 0, none⟩) nq nq, .slice (some ⟨q, 0, none⟩) nq nq, .func (.func 73) #[] #[.pointer (some ⟨q + 1, 0, none⟩)], .int .i64 (t.idx : Int), .int .u64 (t.num : Int), undef, undef, undef, undef, undef, undef, undef, undef, undef, undef, undef, undef, undef, undef, undef, undef, undef, undef, undef, undef, undef, undef, undef, undef], defers := [] }) ?assign ?body ?done ?stop
  case assign =>
    intro l x W K hK
    unfold Pr.enc
    gi_wp2
    exact hK
  case body =>
    rintro l pre t W ⟨⟨La', Lq, hr, hl, hs, hrq, hlq, hsq, hdk⟩, hfx⟩ hlt
    have hpn := t.ilt
    obtain ⟨p, hp⟩ : ∃ p, p = t.idx := ⟨_, rfl⟩
    rw [← hp] at hpn
    simp only [← hp]
    obtain ⟨s, hse⟩ : ∃ s, s = p + lb := ⟨_, rfl⟩
    have hps : (p : Int) + (lb : Int) = (s : Int) := by omega
    have hsl : s < la := by omega
    have cA := (hfx.cell (p := ⟨B, 0, none⟩) (by show B < I5 + 3; omega) (by show ¬ (B = ga ∨ B = q); omega)).trans HA8.out
    have cB := (hfx.cell (p := ⟨B + 1, 0, none⟩) (by show B + 1 < I5 + 3; omega) (by show ¬ (B + 1 = ga ∨ B + 1 = q); omega)).trans HB8.out
    have cC := (hfx.cell (p := ⟨B + 1 + 1, 0, none⟩) (by show B + 1 + 1 < I5 + 3; omega) (by show ¬ (B + 1 + 1 = ga ∨ B + 1 + 1 = q); omega)).trans HC8.out
    have cD := (hfx.cell (p := ⟨B + 1 + 1 + 1, 0, none⟩) (by show B + 1 + 1 + 1 < I5 + 3; omega) (by show ¬ (B + 1 + 1 + 1 = ga ∨ B + 1 + 1 + 1 = q); omega)).trans HD8.out
    have cI := (hfx.cell (p := ⟨I5, 0, none⟩) (by show I5 < I5 + 3; omega) (by show ¬ (I5 = ga ∨ I5 = q); omega)).trans HI8.out
    have cT := hr.cell (i := s) (by omega)
    have hx1 := get_big hs.big s
    obtain ⟨x1, hx1e⟩ : ∃ x1, x1 = La'[s]?.getD 0 := ⟨_, rfl⟩
    rw [← hx1e] at cT hx1
    have cO := hrq.cell (i := p) (by omega)
    have fO := hrq.frozen p
    have hmul := fun W => mul_any x1 y W hx1 (by omega)
    have hvl := Fld.mul_lt x1 y
    obtain ⟨v, hv⟩ : ∃ v, v = Fld.mul x1 y := ⟨_, rfl⟩
    simp only [← hv] at hmul hvl
    have HMUL := Lib.hid hmul
    have HV := Lib.hid hv
    have HX1 := Lib.hid hx1e
    have HR := Lib.hid hr
    have HLN := Lib.hid hl
    have HS := Lib.hid hs
    have HRQ := Lib.hid hrq
    have HLQ := Lib.hid hlq
    have HSQ := Lib.hid hsq
    have HDK := Lib.hid hdk
    have HP := Lib.hid hp
    have HSE := Lib.hid hse
    clear hr hl hs hrq hlq hsq hdk hmul hv hx1e hp hse
    have p0 : (0 : Int) ≤ (p : Int) := by omega
    have p1 : (p : Int) < (nq : Int) := by omega
    have p2 : (0 : Int) ≤ (s : Int) := by omega
    have p3 : (s : Int) < (la : Int) := by omega
    have hws : IntKind.i64.wrap (s : Int) = (s : Int) := by rw [IntKind.wrap_i64]; omega
    gi_wp2
    refine region_round (by kernel_rfl) (by kernel_rfl) (fun _ _ h => h) ?_
    have h8 : (fun W' : World => W'.cell? ⟨B, 0, none⟩ = some (.slice (some ⟨ga, 0, none⟩) la ca) ∧ W'.cell? ⟨B + 1 + 1, 0, none⟩ = some (.slice (some ⟨q, 0, none⟩) nq nq) ∧ W'.cell? ⟨B + 1 + 1 + 1, 0, none⟩ = some (.int .i64 (lb : Int)) ∧ W'.cell? ⟨I5, 0, none⟩ = some (.int .u64 (y : Int)) ∧ W'.cell? ⟨ga, s, none⟩ = some (.int .u64 (x1 : Int))) W.drew := ⟨cA, cC, cD, cI, cT⟩
    refine wpAny_of_held (S := fun W' : World => W'.cell? ⟨B, 0, none⟩ = some (.slice (some ⟨ga, 0, none⟩) la ca) ∧ W'.cell? ⟨B + 1 + 1, 0, none⟩ = some (.slice (some ⟨q, 0, none⟩) nq nq) ∧ W'.cell? ⟨B + 1 + 1 + 1, 0, none⟩ = some (.int .i64 (lb : Int)) ∧ W'.cell? ⟨I5, 0, none⟩ = some (.int .u64 (y : Int)) ∧ W'.cell? ⟨ga, s, none⟩ = some (.int .u64 (x1 : Int))) _ _ _ _ ?_
    refine wpAnyH_take (i := 0) (v := ?_) rfl (by kernel_rfl) (by kernel_rfl) (by kernel_rfl) (fun _ _ _ h => h) (Or.inl ⟨by rfl, ?_⟩) (by assumption) ?_
    rotate_left
    · (intro w hSw; (try dsimp only at hSw); obtain ⟨s0, s1, s2, s3, s4⟩ := hSw; go_simp; try (with_reducible rfl))
    try simp only [Act.put, List.getElem_toArray, List.getElem_cons_zero, List.setIfInBounds_toArray, List.set_cons_zero, List.set_cons_succ]
    refine wpAnyH_take (i := 1) (v := ?_) rfl (by kernel_rfl) (by kernel_rfl) (by kernel_rfl) (fun _ _ _ h => h) (Or.inl ⟨by rfl, ?_⟩) (by assumption) ?_
    rotate_left
    · (intro w hSw; (try dsimp only at hSw); obtain ⟨s0, s1, s2, s3, s4⟩ := hSw; go_simp; try (with_reducible rfl))
    try simp only [Act.put, List.getElem_toArray, List.getElem_cons_succ, List.getElem_cons_zero, List.setIfInBounds_toArray, List.set_cons_zero, List.set_cons_succ]
    refine wpAnyH_take (i := 2) (v := ?_) rfl (by kernel_rfl) (by kernel_rfl) (by kernel_rfl) (fun _ _ _ h => h) (Or.inl ⟨by rfl, ?_⟩) (by assumption) ?_
    rotate_left
    · (intro w hSw; (try dsimp only at hSw); obtain ⟨s0, s1, s2, s3, s4⟩ := hSw; go_simp; try (with_reducible rfl))
    try simp only [Act.put, List.getElem_toArray, List.getElem_cons_succ, List.getElem_cons_zero, List.setIfInBounds_toArray, List.set_cons_zero, List.set_cons_succ]
    refine wpAnyH_take (i := 3) (v := ?_) rfl (by kernel_rfl) (by kernel_rfl) (by kernel_rfl) (fun _ _ _ h => h) (Or.inl ⟨by rfl, ?_⟩) (by assumption) ?_
    rotate_left
    · (intro w hSw; (try dsimp only at hSw); obtain ⟨s0, s1, s2, s3, s4⟩ := hSw; go_simp; try (with_reducible rfl))
    try simp only [Act.put, List.getElem_toArray, List.getElem_cons_succ, List.getElem_cons_zero, List.setIfInBounds_toArray, List.set_cons_zero, List.set_cons_succ]
    refine wpAnyH_take (i := 4) (v := ?_) rfl (by kernel_rfl) (by kernel_rfl) (by kernel_rfl) (fun _ _ _ h => h) (Or.inl ⟨by rfl, ?_⟩) (by assumption) ?_
    rotate_left
    · (intro w hSw; (try dsimp only at hSw); obtain ⟨s0, s1, s2, s3, s4⟩ := hSw; go_simp; try (with_reducible rfl))
    try simp only [Act.put, List.getElem_toArray, List.getElem_cons_succ, List.getElem_cons_zero, List.setIfInBounds_toArray, List.set_cons_zero, List.set_cons_succ]
    refine wpAnyH_take (i := 5) (v := ?_) rfl (by kernel_rfl) (by kernel_rfl) (by kernel_rfl) (fun _ _ _ h => h) (Or.inl ⟨by rfl, ?_⟩) (by assumption) ?_
    rotate_left
    · (intro w hSw; (try dsimp only at hSw); obtain ⟨s0, s1, s2, s3, s4⟩ := hSw; go_simp; try (with_reducible rfl))
    try simp only [Act.put, List.getElem_toArray, List.getElem_cons_succ, List.getElem_cons_zero, List.setIfInBounds_toArray, List.set_cons_zero, List.set_cons_succ]
    refine wpAnyH_take (i := 6) (v := ?_) rfl (by kernel_rfl) (by kernel_rfl) (by kernel_rfl) (fun _ _ _ h => h) (Or.inl ⟨by rfl, ?_⟩) (by assumption) ?_
    rotate_left
    · (intro w hSw; (try dsimp only at hSw); obtain ⟨s0, s1, s2, s3, s4⟩ := hSw; go_simp; try (with_reducible rfl))
    try simp only [Act.put, List.getElem_toArray, List.getElem_cons_succ, List.getElem_cons_zero, List.setIfInBounds_toArray, List.set_cons_zero, List.set_cons_succ]
    refine wpAnyH_take (i := 7) (v := ?_) rfl (by kernel_rfl) (by kernel_rfl) (by kernel_rfl) (fun _ _ _ h => h) (Or.inl ⟨by rfl, ?_⟩) (by assumption) ?_
    rotate_left
    · (intro w hSw; (try dsimp only at hSw); obtain ⟨s0, s1, s2, s3, s4⟩ := hSw; go_simp; try (with_reducible rfl))
    try simp only [Act.put, List.getElem_toArray, List.getElem_cons_succ, List.getElem_cons_zero, List.setIfInBounds_toArray, List.set_cons_zero, List.set_cons_succ]
    refine wpAnyH_take (i := 8) (v := ?_) rfl (by kernel_rfl) (by kernel_rfl) (by kernel_rfl) (fun _ _ _ h => h) (Or.inl ⟨by rfl, ?_⟩) (by assumption) ?_
    rotate_left
    · (intro w hSw; (try dsimp only at hSw); obtain ⟨s0, s1, s2, s3, s4⟩ := hSw; go_simp; try (with_reducible rfl))
    try simp only [Act.put, List.getElem_toArray, List.getElem_cons_succ, List.getElem_cons_zero, List.setIfInBounds_toArray, List.set_cons_zero, List.set_cons_succ]
    refine wpAnyH_ready (rs := [9]) (by kernel_rfl) (by simp) ?_
    refine AllReadyH.cons rfl (fun K hK => ?_) AllReadyH.nil
    go_simp
    go_wp2_with (go_at_call 39; ((with_reducible refine (HMUL.out _).mono ?_); rintro e w4 ⟨rfl, rfl⟩))
    refine hK.out _ _ h8 (fun hHeld => ?_)
    clear hK K
    try simp only [Act.put, List.getElem_toArray, List.getElem_cons_zero, List.setIfInBounds_toArray, List.set_cons_zero, List.set_cons_succ]
    refine wpAnyH_take (i := 10) (v := ?_) rfl (by kernel_rfl) (by kernel_rfl) (by kernel_rfl) (fun _ _ _ h => h) (Or.inl ⟨by rfl, ?_⟩) (by assumption) ?_
    rotate_left
    · (intro w hSw; (try dsimp only at hSw); obtain ⟨s0, s1, s2, s3, s4⟩ := hSw; go_simp; try (with_reducible rfl))
    try simp only [Act.put, List.getElem_toArray, List.getElem_cons_succ, List.getElem_cons_zero, List.setIfInBounds_toArray, List.set_cons_zero, List.set_cons_succ]
    refine wpAnyH_ready (rs := [11]) (by kernel_rfl) (by simp) ?_
    refine AllReadyH.cons rfl (fun K hK => ?_) AllReadyH.nil
    go_simp
    refine hK.out _ _ ⟨?_, ?_, ?_, ?_, ?_⟩ (fun hHeld2 => ?_)
    · exact (World.cell?_of_block (Below.heap_setCell _ _ _ _ (by show B ≠ q; omega))).trans cA
    · exact (World.cell?_of_block (Below.heap_setCell _ _ _ _ (by show B + 1 + 1 ≠ q; omega))).trans cC
    · exact (World.cell?_of_block (Below.heap_setCell _ _ _ _ (by show B + 1 + 1 + 1 ≠ q; omega))).trans cD
    · exact (World.cell?_of_block (Below.heap_setCell _ _ _ _ (by show I5 ≠ q; omega))).trans cI
    · exact (World.cell?_of_block (Below.heap_setCell _ _ _ _ (by show ga ≠ q; omega))).trans cT
    clear hK K
    refine wpAnyH_done (by kernel_rfl) ?_ _
    gi_wp2
    have hfw9 : Fx (I5 + 3) (fun k => k = ga ∨ k = q) W (W.setCell ⟨q, p, none⟩ (.int .u64 (v : Int))) := (Fx.refl _ _ W).set_ (.inr (.inr rfl)) _
    have hk9 := KeepsOthers.setCell W ⟨q, p, none⟩ (.int .u64 (v : Int))
    have hrq9 := HRQ.out.set_ p v
    have cV := hrq9.cell (i := p) (by rw [List.length_set]; have := HLQ.out; omega)
    rw [show (Lq.set p v)[p]?.getD 0 = v by rw [List.getElem?_set_self (by have := HLQ.out; omega)]; rfl] at cV
    have hr9 : Ar (W.setCell ⟨q, p, none⟩ (.int .u64 (v : Int))) ga La' := (Below.heap_setCell _ _ _ _ (by show ga ≠ q; omega)).trans HR.out
    have cA9 := (hfw9.cell (p := ⟨B, 0, none⟩) (by show B < I5 + 3; omega) (by show ¬ (B = ga ∨ B = q); omega)).trans cA
    have cB9 := (hfw9.cell (p := ⟨B + 1, 0, none⟩) (by show B + 1 < I5 + 3; omega) (by show ¬ (B + 1 = ga ∨ B + 1 = q); omega)).trans cB
    have cC9 := (hfw9.cell (p := ⟨B + 1 + 1, 0, none⟩) (by show B + 1 + 1 < I5 + 3; omega) (by show ¬ (B + 1 + 1 = ga ∨ B + 1 + 1 = q); omega)).trans cC
    have hfx9 := hfx.trans hfw9
    have hRq9 : Rq ga (W.setCell ⟨q, p, none⟩ (.int .u64 (v : Int))) (some ⟨bb, ob, none⟩) (u64s b) := fun _ => ⟨bb, ob, rfl, hbne, by have := hfx9.size; omega, fun i u hu => by
      rw [hfx9.cell (p := ⟨bb, ob + i, none⟩) (by show bb < I5 + 3; omega) (by show ¬ (bb = ga ∨ bb = q); omega), Hb8.out.cell (p := ⟨bb, ob + i, none⟩) (by show bb < B; omega)]
      exact HBC.out i u hu⟩
    obtain ⟨w9, hw9⟩ : ∃ w9, w9 = W.setCell ⟨q, p, none⟩ (.int .u64 (v : Int)) := ⟨_, rfl⟩
    rw [← hw9] at hfw9 hk9 hrq9 cV hr9 cA9 cB9 cC9 hfx9 hRq9 ⊢
    obtain ⟨nm, hnm⟩ : ∃ nm, nm = la - p := ⟨_, rfl⟩
    obtain ⟨dm, hdm⟩ : ∃ dm, dm = ca - p := ⟨_, rfl⟩
    have hsl2 := slice_from ga 0 la ca p nm dm (by omega) (by omega) hnm hdm
    rw [Nat.zero_add] at hsl2
    have hneg := fun W => neg_any v W (by omega)
    have hul := Fld.sub_lt 0 v
    obtain ⟨u, hu⟩ : ∃ u, u = Fld.sub 0 v := ⟨_, rfl⟩
    simp only [← hu] at hneg hul
    have hat : Calls Try.prog 43 #[.slice (some ⟨ga, p, none⟩) nm dm, .slice (some ⟨bb, ob, none⟩) m cb, .int .u64 u] w9.drew.drew fun e w' => (∃ r, e = .returned r) ∧ Ar w' ga (Pl.up La' p b u m) ∧ w9.drew.drew.grownBy w' (some ga) :=
      addTimes_any ga p nm dm La' (some ⟨bb, ob, none⟩) m cb b u w9.drew.drew hr9.drew.drew HS.out.big (by have := HM.out; have := HLN.out; have := HSE.out; omega) (by have := HM.out; have := HSE.out; omega) (by omega) HLB.out HT.out.1.big (by omega) hRq9.drew.drew
    have HNEG := Lib.hid hneg
    have HAT := Lib.hid hat
    have HU := Lib.hid hu
    have HR9 := Lib.hid hr9
    have HRQ9 := Lib.hid hrq9
    have HF9 := Lib.hid hfw9
    have HK9 := Lib.hid hk9
    have HFX9 := Lib.hid hfx9
    clear hneg hat hu hr9 hrq9 hfw9 hk9 hfx9 hRq9 hw9 hnm hdm hHeld hHeld2 h8 cA cB cC cD cI cT cO fO hfx hB2
    refine region_round (by kernel_rfl) (by kernel_rfl) (fun _ _ h => h) ?_
    have h9 : (fun W' : World => W'.cell? ⟨B, 0, none⟩ = some (.slice (some ⟨ga, 0, none⟩) la ca) ∧ W'.cell? ⟨B + 1, 0, none⟩ = some (.slice (some ⟨bb, ob, none⟩) m cb) ∧ W'.cell? ⟨B + 1 + 1, 0, none⟩ = some (.slice (some ⟨q, 0, none⟩) nq nq) ∧ W'.cell? ⟨q, p, none⟩ = some (.int .u64 (v : Int))) w9.drew.drew := ⟨cA9, cB9, cC9, cV⟩
    refine wpAny_of_held (S := fun W' : World => W'.cell? ⟨B, 0, none⟩ = some (.slice (some ⟨ga, 0, none⟩) la ca) ∧ W'.cell? ⟨B + 1, 0, none⟩ = some (.slice (some ⟨bb, ob, none⟩) m cb) ∧ W'.cell? ⟨B + 1 + 1, 0, none⟩ = some (.slice (some ⟨q, 0, none⟩) nq nq) ∧ W'.cell? ⟨q, p, none⟩ = some (.int .u64 (v : Int))) _ _ _ _ ?_
    refine wpAnyH_take (i := 0) (v := ?_) rfl (by kernel_rfl) (by kernel_rfl) (by kernel_rfl) (fun _ _ _ h => h) (Or.inl ⟨by rfl, ?_⟩) (by assumption) ?_
    rotate_left
    · (intro w hSw; (try dsimp only at hSw); obtain ⟨s0, s1, s2, s3⟩ := hSw; go_simp; try (with_reducible rfl))
    try simp only [Act.put, List.getElem_toArray, List.getElem_cons_zero, List.setIfInBounds_toArray, List.set_cons_zero, List.set_cons_succ]
    refine wpAnyH_take (i := 1) (v := ?_) rfl (by kernel_rfl) (by kernel_rfl) (by kernel_rfl) (fun _ _ _ h => h) (Or.inl ⟨by rfl, ?_⟩) (by assumption) ?_
    rotate_left
    · (intro w hSw; (try dsimp only at hSw); obtain ⟨s0, s1, s2, s3⟩ := hSw; go_simp; try (with_reducible rfl))
    try simp only [Act.put, List.getElem_toArray, List.getElem_cons_succ, List.getElem_cons_zero, List.setIfInBounds_toArray, List.set_cons_zero, List.set_cons_succ]
    refine wpAnyH_take (i := 2) (v := ?_) rfl (by kernel_rfl) (by kernel_rfl) (by kernel_rfl) (fun _ _ _ h => h) (Or.inl ⟨by rfl, ?_⟩) (by assumption) ?_
    rotate_left
    · (intro w hSw; (try dsimp only at hSw); obtain ⟨s0, s1, s2, s3⟩ := hSw; go_simp; try (with_reducible rfl))
    try simp only [Act.put, List.getElem_toArray, List.getElem_cons_succ, List.getElem_cons_zero, List.setIfInBounds_toArray, List.set_cons_zero, List.set_cons_succ]
    refine wpAnyH_take (i := 3) (v := ?_) rfl (by kernel_rfl) (by kernel_rfl) (by kernel_rfl) (fun _ _ _ h => h) (Or.inl ⟨by rfl, ?_⟩) (by assumption) ?_
    rotate_left
    · (intro w hSw; (try dsimp only at hSw); obtain ⟨s0, s1, s2, s3⟩ := hSw; go_simp; try (with_reducible rfl))
    try simp only [Act.put, List.getElem_toArray, List.getElem_cons_succ, List.getElem_cons_zero, List.setIfInBounds_toArray, List.set_cons_zero, List.set_cons_succ]
    refine wpAnyH_take (i := 4) (v := ?_) rfl (by kernel_rfl) (by kernel_rfl) (by kernel_rfl) (fun _ _ _ h => h) (Or.inl ⟨by rfl, ?_⟩) (by assumption) ?_
    rotate_left
    · (intro w hSw; (try dsimp only at hSw); obtain ⟨s0, s1, s2, s3⟩ := hSw; go_simp; try (with_reducible rfl))
    try simp only [Act.put, List.getElem_toArray, List.getElem_cons_succ, List.getElem_cons_zero, List.setIfInBounds_toArray, List.set_cons_zero, List.set_cons_succ]
    refine wpAnyH_take (i := 5) (v := ?_) rfl (by kernel_rfl) (by kernel_rfl) (by kernel_rfl) (fun _ _ _ h => h) (Or.inl ⟨by rfl, ?_⟩) (by assumption) ?_
    rotate_left
    · (intro w hSw; (try dsimp only at hSw); obtain ⟨s0, s1, s2, s3⟩ := hSw; go_simp; try (with_reducible rfl))
    try simp only [Act.put, List.getElem_toArray, List.getElem_cons_succ, List.getElem_cons_zero, List.setIfInBounds_toArray, List.set_cons_zero, List.set_cons_succ]
    refine wpAnyH_take (i := 6) (v := ?_) rfl (by kernel_rfl) (by kernel_rfl) (by kernel_rfl) (fun _ _ _ h => h) (Or.inl ⟨by rfl, ?_⟩) (by assumption) ?_
    rotate_left
    · (intro w hSw; (try dsimp only at hSw); obtain ⟨s0, s1, s2, s3⟩ := hSw; go_simp; try (with_reducible rfl))
    try simp only [Act.put, List.getElem_toArray, List.getElem_cons_succ, List.getElem_cons_zero, List.setIfInBounds_toArray, List.set_cons_zero, List.set_cons_succ]
    refine wpAnyH_take (i := 7) (v := ?_) rfl (by kernel_rfl) (by kernel_rfl) (by kernel_rfl) (fun _ _ _ h => h) (Or.inl ⟨by rfl, ?_⟩) (by assumption) ?_
    rotate_left
    · (intro w hSw; (try dsimp only at hSw); obtain ⟨s0, s1, s2, s3⟩ := hSw; go_simp; try (with_reducible rfl))
    try simp only [Act.put, List.getElem_toArray, List.getElem_cons_succ, List.getElem_cons_zero, List.setIfInBounds_toArray, List.set_cons_zero, List.set_cons_succ]
    refine wpAnyH_ready (rs := [8]) (by kernel_rfl) (by simp) ?_
    refine AllReadyH.cons rfl (fun K hK => ?_) AllReadyH.nil
    go_simp
    go_wp2_with (go_at_call 62; ((with_reducible refine (HNEG.out _).mono ?_); rintro e w10 ⟨rfl, rfl⟩))
    refine hK.out _ _ h9 (fun hHeld => ?_)
    clear hK K
    try simp only [Act.put, List.getElem_toArray, List.getElem_cons_zero, List.setIfInBounds_toArray, List.set_cons_zero, List.set_cons_succ]
    refine wpAnyH_ready (rs := [9]) (by kernel_rfl) (by simp) ?_
    refine AllReadyH.cons rfl (fun K hK => ?_) AllReadyH.nil
    go_simp
    go_wp2_with (go_at_call 43; ((with_reducible refine (HAT.out).mono ?_); rintro e w10 ⟨⟨r, rfl⟩, hr10, hg10'⟩; have hg10 := only_of_drew (only_of_drew hg10'); clear hg10'; have HR10 := Lib.hid hr10; clear hr10))
    have hsz9 : I5 + 3 ≤ w9.heap.size := by have := HFX9.out.size; omega
    refine hK.out _ _ ⟨?_, ?_, ?_, ?_⟩ (fun hHeld2 => ?_)
    · exact (World.cell?_of_block (a := ⟨B, 0, none⟩) (hg10.block B (by omega) (fun e => by injection e with e; omega))).trans cA9
    · exact (World.cell?_of_block (a := ⟨B + 1, 0, none⟩) (hg10.block (B + 1) (by omega) (fun e => by injection e with e; omega))).trans cB9
    · exact (World.cell?_of_block (a := ⟨B + 1 + 1, 0, none⟩) (hg10.block (B + 1 + 1) (by omega) (fun e => by injection e with e; omega))).trans cC9
    · exact (World.cell?_of_block (a := ⟨q, p, none⟩) (hg10.block q (by omega) (fun e => by injection e with e; omega))).trans cV
    clear hK K
    refine wpAnyH_done (by kernel_rfl) ?_ _
    have hiso : ∀ (j : Nat) (o : Obj), some ga = some j → w9.heap[j]? = some o → o.isCells = true := by
      intro j o e ho
      injection e with e
      subst e
      have h := HR9.out
      unfold Ar Blk at h
      rw [h] at ho
      injection ho with ho
      subst ho
      rfl
    have hfw10 : Fx (I5 + 3) (fun k => k = ga ∨ k = q) w9 w10 := Fx.of_grown hg10 fun j hj hx => ⟨by omega, fun e => hx (.inl (by injection e))⟩
    have hq10 : Ar w10 q (Lq.set p v) := (hg10.block q (by omega) (fun e => by injection e with e; omega)).trans HRQ9.out
    have hsq10 : Pl.Sm (Lq.set p v) := HSQ.out.set_ p (by omega)
    refine ⟨HK9.out.trans (KeepsOthers.of_grownBy hg10 hiso), ⟨HF9.out.trans hfw10, fun _ => ⟨_, hq10, by rw [List.length_set]; exact HLQ.out, hsq10⟩⟩, ⟨_, _, HR10.out, by rw [Pl.up_len]; exact HLN.out, Pl.up_sm HS.out _ _ _ _, hq10, by rw [List.length_set]; exact HLQ.out, hsq10, fun hseen => ?_⟩, HFX9.out.trans hfw10⟩
    obtain ⟨hs1, hs2⟩ := hseen.init
    rw [← HP.out] at hs2
    have hlb := HM.out
    have hla' := HLN.out
    have hmb := HLB.out
    have hnq := HNQ.out
    have hsee := HSE.out
    rw [List.length_append, List.length_singleton]
    refine Pl.Dk.step (p := p) (v := Fld.to v) (HDK.out hs1) hs2 (by omega) HDG.out ?_ ?_ ?_ (fun n => ?_)
    · rw [← HX.out, HV.out, Fld.to_mulF, HIT.out, ← hsee, Pl.co_take, if_pos hsl, Pl.co_at, ← HX1.out]
      have h1 := Fld.mul_iv (a := Fld.to x) (by rw [HX.out]; exact HDG.out.1)
      grind
    · exact (HDK.out hs1).2.2 p (by omega)
    · rw [Pl.up_take _ _ _ _ _ _ (by omega), Pl.co_up_all _ _ _ _ _ HLB.out (by rw [List.length_take]; omega), HU.out, Fld.to_subF]; rfl
    · exact Pl.co_set (by have := HLQ.out; omega) _ _
  case done =>
    rintro D ys W hD ⟨hseen, hyl⟩ ⟨⟨La', Lq, hr, hl, hs, hrq, hlq, hsq, hdk⟩, hfx⟩ hK
    have hdk2 := hdk hseen
    rw [hyl] at hdk2
    have cA := (hfx.cell (p := ⟨B, 0, none⟩) (by show B < I5 + 3; omega) (by show ¬ (B = ga ∨ B = q); omega)).trans HA8.out
    have cC := (hfx.cell (p := ⟨B + 1 + 1, 0, none⟩) (by show B + 1 + 1 < I5 + 3; omega) (by show ¬ (B + 1 + 1 = ga ∨ B + 1 + 1 = q); omega)).trans HC8.out
    have fC := (hfx.frozen (p := ⟨B + 1 + 1, 0, none⟩) (by show B + 1 + 1 < I5 + 3; omega) (by show ¬ (B + 1 + 1 = ga ∨ B + 1 + 1 = q); omega)).trans HCF8.out
    have hcut := fun W' h => cut_any ga la ca La' W' h (hs.take la) (by omega) hca (by omega)
    have HCUT := Lib.hid hcut
    have HR := Lib.hid hr
    have HLN := Lib.hid hl
    have HS := Lib.hid hs
    have HRQ := Lib.hid hrq
    have HLQ := Lib.hid hlq
    have HSQ := Lib.hid hsq
    have HDK := Lib.hid hdk2
    have HKD := Lib.hid hK
    have HFX := Lib.hid hfx
    clear hr hl hs hrq hlq hsq hdk hdk2 hcut hseen hyl hK hfx
    gi_wp2
    refine region_wide (by kernel_rfl) ?_
    have h9 : (fun W' : World => W'.cell? ⟨B, 0, none⟩ = some (.slice (some ⟨ga, 0, none⟩) la ca) ∧ W'.cell? ⟨B + 1 + 1, 0, none⟩ = some (.slice (some ⟨q, 0, none⟩) nq nq)) W.drew := ⟨cA, cC⟩
    refine wpAny_of_held (S := fun W' : World => W'.cell? ⟨B, 0, none⟩ = some (.slice (some ⟨ga, 0, none⟩) la ca) ∧ W'.cell? ⟨B + 1 + 1, 0, none⟩ = some (.slice (some ⟨q, 0, none⟩) nq nq)) _ _ _ _ ?_
    refine wpAnyH_take (i := 0) (v := ?_) rfl (by kernel_rfl) (by kernel_rfl) (by kernel_rfl) (fun _ _ _ h => h) (Or.inl ⟨by rfl, ?_⟩) (by assumption) ?_
    rotate_left
    · (intro w hSw; (try dsimp only at hSw); obtain ⟨s0, s1⟩ := hSw; go_simp; try (with_reducible rfl))
    try simp only [Act.put, List.getElem_toArray, List.getElem_cons_zero, List.setIfInBounds_toArray, List.set_cons_zero, List.set_cons_succ]
    refine wpAnyH_take (i := 1) (v := ?_) rfl (by kernel_rfl) (by kernel_rfl) (by kernel_rfl) (fun _ _ _ h => h) (Or.inl ⟨by rfl, ?_⟩) (by assumption) ?_
    rotate_left
    · (intro w hSw; (try dsimp only at hSw); obtain ⟨s0, s1⟩ := hSw; go_simp; try (with_reducible rfl))
    try simp only [Act.put, List.getElem_toArray, List.getElem_cons_succ, List.getElem_cons_zero, List.setIfInBounds_toArray, List.set_cons_zero, List.set_cons_succ]
    refine wpAnyH_ready (rs := [2]) (by kernel_rfl) (by simp) ?_
    refine AllReadyH.cons rfl (fun K hK => ?_) AllReadyH.nil
    go_simp
    go_wp2_with (go_at_call 44; ((with_reducible refine (HCUT.out _ HR.out.drew).mono ?_); rintro e w4 ⟨nr, hnr, rfl, his, rfl⟩; have HIS := Lib.hid his; clear his))
    refine hK.out _ _ h9 (fun hHeld => ?_)
    clear hK K
    try simp only [Act.put, List.getElem_toArray, List.getElem_cons_zero, List.setIfInBounds_toArray, List.set_cons_zero, List.set_cons_succ]
    refine wpAnyH_ready (rs := [3]) (by kernel_rfl) (by simp) ?_
    refine AllReadyH.cons rfl (fun K hK => ?_) AllReadyH.nil
    go_simp
    have hfw4 : Fx (I5 + 3) (fun k => k = ga ∨ k = B + 1 + 1) W (W.setCell ⟨B + 1 + 1, 0, none⟩ (.slice (some ⟨q, 0, none⟩) nq nq)) := (Fx.refl _ _ W).set_ (.inr (.inr rfl)) _
    have cC4 := World.cell?_setCell_same' W ⟨B + 1 + 1, 0, none⟩ (.slice (some ⟨q, 0, none⟩) nq nq) (by rw [cC]; rfl)
    refine hK.out _ _ ⟨(World.cell?_of_block (Below.heap_setCell _ _ _ _ (by show B ≠ B + 1 + 1; omega))).trans cA, cC4⟩ (fun hHeld2 => ?_)
    clear hK K
    try simp only [Act.put, List.getElem_toArray, List.getElem_cons_zero, List.setIfInBounds_toArray, List.set_cons_zero, List.set_cons_succ]
    refine wpAnyH_take (i := 4) (v := ?_) rfl (by kernel_rfl) (by kernel_rfl) (by kernel_rfl) (fun _ _ _ h => h) (Or.inl ⟨by rfl, ?_⟩) (by assumption) ?_
    rotate_left
    · (intro w hSw; (try dsimp only at hSw); obtain ⟨s0, s1⟩ := hSw; go_simp; try (with_reducible rfl))
    try simp only [Act.put, List.getElem_toArray, List.getElem_cons_succ, List.getElem_cons_zero, List.setIfInBounds_toArray, List.set_cons_zero, List.set_cons_succ]
    refine wpAnyH_done (by kernel_rfl) ?_ _
    obtain ⟨w4, hw4⟩ : ∃ w4, w4 = W.setCell ⟨B + 1 + 1, 0, none⟩ (.slice (some ⟨q, 0, none⟩) nq nq) := ⟨_, rfl⟩
    rw [← hw4] at cC4 hfw4 ⊢
    refine OnlyN.of ?_
    gi_wp2
    have hD1 : w4.drew.heap[D]? = W.heap[D]? := hw4 ▸ Below.heap_setCell _ _ _ _ (by show D ≠ B + 1 + 1; omega)
    refine ⟨by simp, .inl ⟨_, _, rfl, run_takeDeferred (hD1.trans HKD.out), ?_⟩⟩
    have hfd : Fx (I5 + 3) (fun k => k = ga ∨ k = B + 1 + 1) W (w4.drew.putObj D (.deferred none)) := hfw4.drew.put (by omega) _
    have hDg : D ≠ ga := by omega
    have hDq : D ≠ q := by omega
    have hg4 : Ar w4 ga La' := (hw4 ▸ Below.heap_setCell _ _ _ _ (by show ga ≠ B + 1 + 1; omega) : w4.heap[ga]? = W.heap[ga]?).trans HR.out
    have hq4 : Ar w4 q Lq := (hw4 ▸ Below.heap_setCell _ _ _ _ (by show q ≠ B + 1 + 1; omega) : w4.heap[q]? = W.heap[q]?).trans HRQ.out
    have hhq : (w4.drew.putObj D (.deferred none)).cell? ⟨B + 1 + 1, 0, none⟩ = some (.slice (some ⟨q, 0, none⟩) nq nq) := (World.cell?_of_block (World.putObj_heap_other (by show B + 1 + 1 ≠ D; omega))).trans cC4
    have hnq := HNQ.out
    have hdm := Pl.Dk.dm HDK.out HDG.out (by omega) (Pl.Po.co Lq)
    refine ⟨.tuple #[.slice (some ⟨q, 0, none⟩) nq nq, .slice (some ⟨ga, 0, none⟩) nr ca], ?_, ⟨q, nq, Lq, La', nr, rfl, ?_, ?_, HLQ.out, HSQ.out, ?_, HLN.out, hnr, HS.out, HIS.out.1, ?_, ?_⟩, ?_⟩
    · exact run_cell_tmp (fn := Try.f51) (p := 4) (u := 5) rfl _ _ ⟨B + 1 + 1, 0, none⟩ _ rfl hhq
    · have := HBE.out; omega
    · exact (World.putObj_heap_other hDq.symm).trans hq4
    · exact (World.putObj_heap_other hDg.symm).trans hg4
    · rw [HIS.out.2]; exact hdm
    · intro hta
      cases hq0 : nq with
      | zero => rw [List.eq_nil_of_length_eq_zero (HLQ.out.trans hq0)]; exact Pl.Tr.nil
      | succ j =>
        have hll : Lq.length = j + 1 := HLQ.out.trans hq0
        have hlt : Pl.Lt (Pl.co Lq) (j + 1) := hll ▸ Pl.Lt.co Lq
        exact Pl.Dg.tr HSQ.out hll ⟨Pl.quo_top hdm HDG.out hlt (hta.dg (by rw [List.length_take]; omega)), hlt⟩
    · refine Fx.grown (n := B) (X := fun k => k = ga) ((Fx.of_below Hb8.out (fun k hk _ => hk)).trans ((HFX.out.mono (m := B) (Y := fun k => k = ga) (fun k hk hx => ⟨by omega, by show ¬ (k = ga ∨ k = q); have hx' : ¬ k = ga := hx; omega⟩)).trans (hfd.mono (fun k hk hx => ⟨by omega, by show ¬ (k = ga ∨ k = B + 1 + 1); have hx' : ¬ k = ga := hx; omega⟩)))) (fun k hk hx => ⟨by have := HBE.out; omega, hx⟩)
  case stop =>
    rintro D c pre W _ _ h _
    exact h.elim
end Go.Proofs.Ytalljoneflepiaa
