/-
  Joined texts: Rnd Dva Dvb Dvc Pwr Rtp Lng Rsp Rsq Srt.
-/
import Derived.Stop.RegionWithIn
import Derived.Deep.RegionHeld3
import Derived.RangeFuncCalls
import Derived.Test.YtcbcmnbfflaicaaJb
import Derived.Laws.ResultCell
import Derived.Laws.BitsAllLaws
import Derived.Laws.AppendOwn
import Derived.BigQuiet

/-
  A region that draws its order of evaluation, inside a round of a range over a function: what holds of it outside of a round holds there, where nothing is deferred. No condition but these.
-/
namespace Go.Proofs.Ytcbcmnbfflaicaa

/-- Only the plain end. -/
def OnlyN (K : Act → World → Prop) : Exit → Act → World → Prop
  | .normal, a, w => K a w
  | _, _, _ => False

theorem OnlyN.of {K : Act → World → Prop} {a : Act} {w : World} (h : K a w) : OnlyN K .normal a w := h

theorem rowsIn_round {n l : Nat} {P : Program} {row : String} {args : Array Value} {w : World} {R : Value → World → Prop} (h : Rows P row args w R) : RowsIn (Fence.wide.inRound l) n P row args w R :=
  fun c cs _ => let ⟨v, w', r, s⟩ := h c cs; ⟨v, w', r, by rw [fenced_inRound]; exact stepsIn_wide.2 s⟩

theorem oper_round {n l : Nat} {P : Program} {o : Oper} {a : Act} {w : World} {K : Act → World → Prop} {Q : Exit → Act → World → Prop} (hd : ∀ c, o.op ≠ .defer c) (h : o.wp P a w K Q) : o.wpIn (Fence.wide.inRound l) n P a w K Q := by
  refine ⟨fun _ _ => trivial, ?_⟩
  rw [Fence.inRound_round, Oper.semAt_some l _ o hd]
  unfold Oper.wp at h
  generalize (execOp a.eval o).run P w = r at *
  cases r with
  | ok x w' =>
    cases x <;> simp only [Oper.upon, Oper.uponIn] at h ⊢
    case value => exact h
    case skip => exact h
    case defer => exact h
    case enter => exact ⟨fun e => Bool.noConfusion e, CallsIn.inRound l (callsIn_wide.2 h)⟩
    case row => exact ⟨fun e => Bool.noConfusion e, rowsIn_round h⟩
  | halt x w' => cases x <;> simp only [Oper.upon, Oper.uponIn] at h ⊢ <;> exact h

theorem any_round {n l : Nat} {P : Program} {md : Region.Mode} {ops : Array Oper} {Q : Exit → Act → World → Prop} (hd : ∀ (i : Nat) (o : Oper), ops[i]? = some o → ∀ c, o.op ≠ .defer c) (hQ : ¬ LetsOut Q) : ∀ (fuel : Nat) (listed : Array Bool) (a : Act) (w : World),
    wpAny P md ops Q fuel listed a w → wpAnyIn (Fence.wide.inRound l) n P md ops Q fuel listed a w
  | 0, _, _, _, h => h
  | fuel + 1, listed, a, w, h => by
    refine ⟨h.1, fun i hi => ?_⟩
    have h1 := h.2 i hi
    unfold wpOp at h1
    unfold wpOpIn
    cases ho : ops[i]? with
    | none => simp only [ho] at h1 ⊢; exact any_round hd hQ fuel _ _ _ h1
    | some o =>
      simp only [ho] at h1 ⊢
      split
      · rename_i hw
        simp only [hw, if_true] at h1
        refine oper_round (hd i o ho) (Oper.wp_mono (fun a w h => any_round hd hQ fuel _ _ _ h) (h1.resolve_right fun h => hQ h.2))
      · rename_i hw
        simp only [hw] at h1
        exact ⟨fun _ _ => trivial, any_round hd hQ fuel _ _ _ h1⟩

def noDefer (ops : Array Oper) : Bool := ops.toList.all fun o => match o.op with | .defer _ => false | _ => true
theorem noDefer_spec {ops : Array Oper} (h : noDefer ops = true) (i : Nat) (o : Oper) (ho : ops[i]? = some o) (c : Call) : o.op ≠ .defer c := fun e => by
  have hm : o ∈ ops.toList := by
    rw [← Array.getElem?_toList] at ho
    exact List.mem_of_getElem? ho
  have := List.all_eq_true.1 h o hm
  rw [e] at this
  cases this

theorem region_round {n l id : Nat} {P : Program} {ops : Array Oper} {Q : Exit → Act → World → Prop} {a : Act} {w : World} (hm : P.follows .mixedOrders = true) (hd : noDefer ops = true) (hQ : ∀ a w, ¬ Q .outgrown a w)
    (h : wpAny P .any ops Q ops.size (Array.replicate ops.size false) a w.drew) : (Code.region id ops true).wpIn (Fence.wide.inRound l) n P Q a w :=
  wpIn_region_any hm (any_round (noDefer_spec hd) (fun ⟨_, _, h⟩ => hQ _ _ h) _ _ _ _ h)
theorem oper_wide {n : Nat} {P : Program} {o : Oper} {a : Act} {w : World} {K : Act → World → Prop} {Q : Exit → Act → World → Prop} (h : o.wp P a w K Q) : o.wpIn Fence.wide n P a w K Q := by
  refine ⟨fun _ _ => trivial, ?_⟩
  rw [show Fence.wide.round = none from rfl, Oper.semAt_none]
  unfold Oper.wp at h
  generalize (execOp a.eval o).run P w = r at *
  cases r with
  | ok x w' =>
    cases x <;> simp only [Oper.upon, Oper.uponIn] at h ⊢
    case value => exact h
    case skip => exact h
    case defer => exact h
    case enter => exact ⟨fun e => Bool.noConfusion e, callsIn_wide.2 h⟩
    case row => exact ⟨fun e => Bool.noConfusion e, fun c cs _ => let ⟨v, w', r, s⟩ := h c cs; ⟨v, w', r, stepsIn_wide.2 s⟩⟩
  | halt x w' => cases x <;> simp only [Oper.upon, Oper.uponIn] at h ⊢ <;> exact h

theorem any_wide {n : Nat} {P : Program} {md : Region.Mode} {ops : Array Oper} {Q : Exit → Act → World → Prop} (hQ : ¬ LetsOut Q) : ∀ (fuel : Nat) (listed : Array Bool) (a : Act) (w : World),
    wpAny P md ops Q fuel listed a w → wpAnyIn Fence.wide n P md ops Q fuel listed a w
  | 0, _, _, _, h => h
  | fuel + 1, listed, a, w, h => by
    refine ⟨h.1, fun i hi => ?_⟩
    have h1 := h.2 i hi
    unfold wpOp at h1
    unfold wpOpIn
    cases ho : ops[i]? with
    | none => simp only [ho] at h1 ⊢; exact any_wide hQ fuel _ _ _ h1
    | some o =>
      simp only [ho] at h1 ⊢
      split
      · rename_i hw
        simp only [hw, if_true] at h1
        refine oper_wide (Oper.wp_mono (fun a w h => any_wide hQ fuel _ _ _ h) (h1.resolve_right fun h => hQ h.2))
      · rename_i hw
        simp only [hw] at h1
        exact ⟨fun _ _ => trivial, any_wide hQ fuel _ _ _ h1⟩

/-- Outside of a round, in a function that holds a range over a function: the plain end alone is asked for. -/
theorem region_wide {n id : Nat} {P : Program} {ops : Array Oper} {Q : Exit → Act → World → Prop} {a : Act} {w : World} (hm : P.follows .mixedOrders = true)
    (h : wpAny P .any ops (OnlyN (Q .normal)) ops.size (Array.replicate ops.size false) a w.drew) : (Code.region id ops true).wpIn Fence.wide n P Q a w :=
  wpIn_mono (wpIn_region_any hm (any_wide (fun ⟨_, _, h⟩ => h) _ _ _ _ h)) fun e a w h => by
    cases e <;> first | exact h | exact h.elim
end Go.Proofs.Ytcbcmnbfflaicaa

/-
  Package poly's divide: quotient and rest are those of a polynomial division, the rest in the dividend's own memory. For trimmed divisors that are not 0, and up to a million numbers.
-/
namespace Go.Proofs.Ytcbcmnbfflaicaa
open Go.RowKit Go.Shelf
attribute [local go_sem] Oper.semAt_some

/-- What divide tells: the quotient in memory of its own, the rest in the dividend's. -/
def Divd (w : World) (ga la ca : Nat) (La b : List Nat) (e : Ending) (w' : World) : Prop :=
  ∃ gq nq Lq La' nr, e = .returned (.tuple #[.slice (some ⟨gq, 0, none⟩) nq nq, .slice (some ⟨ga, 0, none⟩) nr ca]) ∧ w.heap.size ≤ gq ∧ Ar w' gq Lq ∧ Lq.length = nq ∧ Pl.Sm Lq ∧
    Ar w' ga La' ∧ La'.length = La.length ∧ nr ≤ la ∧ Pl.Sm La' ∧ Pl.Tr (La'.take nr) ∧ Pl.DM (Pl.co (La.take la)) (Pl.co b) (Pl.co Lq) (Pl.co (La'.take nr)) ∧ (Pl.Tr (La.take la) → Pl.Tr Lq)

theorem Seen.init {n : Nat} {Q : Nat → Nat → Prop} {pre : List (Pr n)} {x : Pr n} (h : Seen n Q (pre ++ [x])) : Seen n Q pre ∧ x.idx + (pre.length + 1) = n := by
  refine ⟨⟨by have := h.1; simp at this; omega, fun j y hj => h.2 j y (by rw [List.getElem?_append_left (List.getElem?_eq_some_iff.1 hj).1]; exact hj)⟩, (h.2 pre.length x (by rw [List.getElem?_concat_length])).1⟩

theorem run_cell_tmp {fn : Func} {p u : Tmp} (h : fn.results = #[.cell p 25, .tmp u]) (tmps : Array Value) (w : World) (a : Addr) (v : Value) (ha : tmps.getD p undef = .pointer (some a)) (hc : w.cell? a = some v) :
    (results fn tmps).run Try.prog w = .ok (.tuple #[v, tmps.getD u undef]) w := by
  rw [results_cell_tmp h, ha]
  generalize tmps.getD u undef = x
  clear ha
  go_simp

theorem Fx.drew {n : Nat} {X : Nat → Prop} {a w : World} (h : Fx n X a w) : Fx n X a w.drew := ⟨h.os, h.tape, h.output, h.size, h.block⟩
/-- A block is a list of nq numbers. -/
def Lst (g nq : Nat) (W : World) : Prop := ∃ L, Ar W g L ∧ L.length = nq ∧ Pl.Sm L
def Kq (n gq ga nq : Nat) (W W' : World) : Prop := Fx n (fun k => k = ga ∨ k = gq) W W' ∧ (Lst gq nq W → Lst gq nq W')
theorem Kq.trans {n gq ga nq : Nat} {A B C : World} (h : Kq n gq ga nq A B) (k : Kq n gq ga nq B C) : Kq n gq ga nq A C := ⟨h.1.trans k.1, fun x => k.2 (h.2 x)⟩
theorem Kq.put {n gq ga nq : Nat} {w : World} (hn : n ≤ w.heap.size) (hq : gq < w.heap.size) (W : World) (l : Nat) (o o' : Obj) (hl : w.heap.size ≤ l) (h1 : W.heap[l]? = some o) (h2 : o.isCells = false) (h3 : o.isWalk = false) : Kq n gq ga nq W (W.putObj l o') :=
  ⟨Fx.k_b hn W l o o' hl h1 h2 h3, fun ⟨L, a, b, c⟩ => ⟨L, (World.putObj_heap_other (by omega)).trans a, b, c⟩⟩

theorem div_cells {w w5 : World} {v1 v2 v3 v4 : Value} {t4 : TypeId} (hb5 : Below ((((w.alloc (.cells #[v1] 25)).alloc (.cells #[v2] 25)).alloc (.cells #[v3] 25)).alloc (.cells #[v4] t4)).heap.size ((((w.alloc (.cells #[v1] 25)).alloc (.cells #[v2] 25)).alloc (.cells #[v3] 25)).alloc (.cells #[v4] t4)) w5) :
    w5.cell? ⟨w.heap.size, 0, none⟩ = some v1 ∧ w5.cell? ⟨w.heap.size + 1, 0, none⟩ = some v2 ∧ (w5.cell? ⟨w.heap.size + 1 + 1, 0, none⟩ = some v3 ∧ w5.frozen? ⟨w.heap.size + 1 + 1, 0, none⟩ = false) ∧ w5.cell? ⟨w.heap.size + 1 + 1 + 1, 0, none⟩ = some v4 ∧ Below w.heap.size w w5 ∧ w.heap.size + 4 ≤ w5.heap.size := by
  have hA4 := cell_alloc_l (.cells #[v4] t4) (cell_alloc_l (.cells #[v3] 25) (cell_alloc_l (.cells #[v2] 25) (cell_new_l w v1 25).1))
  have hB4 := cell_alloc_l (.cells #[v4] t4) (cell_alloc_l (.cells #[v3] 25) (cell_new_l (w.alloc (.cells #[v1] 25)) v2 25).1)
  have hQ4 := cell_alloc_l (.cells #[v4] t4) (cell_new_l ((w.alloc (.cells #[v1] 25)).alloc (.cells #[v2] 25)) v3 25).1
  have hQf4 := frozen_alloc_l (.cells #[v4] t4) (cell_new_l ((w.alloc (.cells #[v1] 25)).alloc (.cells #[v2] 25)) v3 25).1 (cell_new_l ((w.alloc (.cells #[v1] 25)).alloc (.cells #[v2] 25)) v3 25).2
  have hD4 := (cell_new_l (((w.alloc (.cells #[v1] 25)).alloc (.cells #[v2] 25)).alloc (.cells #[v3] 25)) v4 t4).1
  have hb4 : Below w.heap.size w ((((w.alloc (.cells #[v1] 25)).alloc (.cells #[v2] 25)).alloc (.cells #[v3] 25)).alloc (.cells #[v4] t4)) :=
    ((((Below.refl _ w).alloc (Nat.le_refl _) _).alloc (by simp) _).alloc (by simp; omega) _).alloc (by simp; omega) _
  have hs4 : ((((w.alloc (.cells #[v1] 25)).alloc (.cells #[v2] 25)).alloc (.cells #[v3] 25)).alloc (.cells #[v4] t4)).heap.size = w.heap.size + 4 := by simp
  simp only [World.size_alloc] at hA4 hB4 hQ4 hQf4 hD4
  rw [hs4] at hb5
  refine ⟨(hb5.cell (p := ⟨w.heap.size, 0, none⟩) (by show w.heap.size < w.heap.size + 4; omega)).trans hA4, (hb5.cell (p := ⟨w.heap.size + 1, 0, none⟩) (by show w.heap.size + 1 < w.heap.size + 4; omega)).trans hB4,
    ⟨(hb5.cell (p := ⟨w.heap.size + 1 + 1, 0, none⟩) (by show w.heap.size + 1 + 1 < w.heap.size + 4; omega)).trans hQ4, (hb5.frozen (p := ⟨w.heap.size + 1 + 1, 0, none⟩) (by show w.heap.size + 1 + 1 < w.heap.size + 4; omega)).trans hQf4⟩,
    (hb5.cell (p := ⟨w.heap.size + 1 + 1 + 1, 0, none⟩) (by show w.heap.size + 1 + 1 + 1 < w.heap.size + 4; omega)).trans hD4, hb4.trans (hb5.mono (by omega)), ?_⟩
  have := hb5.size
  omega

theorem div_cells2 {w w5 w8 : World} {B y nq : Nat} {v1 v2 v3 v4 vq : Value} (hA : w5.cell? ⟨B, 0, none⟩ = some v1) (hB : w5.cell? ⟨B + 1, 0, none⟩ = some v2) (hQ : w5.cell? ⟨B + 1 + 1, 0, none⟩ = some v3) (hQf : w5.frozen? ⟨B + 1 + 1, 0, none⟩ = false) (hD : w5.cell? ⟨B + 1 + 1 + 1, 0, none⟩ = some v4)
    (hb : Below B w w5) (hs : B + 4 ≤ w5.heap.size) (hw : w8 = ((((w5.alloc (.cells #[.int .u64 (y : Int)] 22)).alloc (.cells (u64s (List.replicate nq 0)).toArray 22)).setCell ⟨B + 1 + 1, 0, none⟩ vq).alloc (.cells #[vq] 25))) :
    w8.cell? ⟨B, 0, none⟩ = some v1 ∧ w8.cell? ⟨B + 1, 0, none⟩ = some v2 ∧ (w8.cell? ⟨B + 1 + 1, 0, none⟩ = some vq ∧ w8.frozen? ⟨B + 1 + 1, 0, none⟩ = false) ∧ w8.cell? ⟨B + 1 + 1 + 1, 0, none⟩ = some v4 ∧
      w8.cell? ⟨w5.heap.size, 0, none⟩ = some (.int .u64 (y : Int)) ∧ Ar w8 (w5.heap.size + 1) (List.replicate nq 0) ∧ w8.cell? ⟨w5.heap.size + 1 + 1, 0, none⟩ = some vq ∧ Below B w w8 ∧ w8.heap.size = w5.heap.size + 3 := by
  subst hw
  have h5 := (cell_new_l w5 (.int .u64 (y : Int)) 22).1
  have h6 := ar_new (w5.alloc (.cells #[.int .u64 (y : Int)] 22)) (List.replicate nq 0)
  have h7 := (cell_new_l (((w5.alloc (.cells #[.int .u64 (y : Int)] 22)).alloc (.cells (u64s (List.replicate nq 0)).toArray 22)).setCell ⟨B + 1 + 1, 0, none⟩ vq) vq 25).1
  have hq := cell_alloc_l (.cells (u64s (List.replicate nq 0)).toArray 22) (cell_alloc_l (.cells #[.int .u64 (y : Int)] 22) hQ)
  have hqf := frozen_alloc_l (.cells (u64s (List.replicate nq 0)).toArray 22) (cell_alloc_l (.cells #[.int .u64 (y : Int)] 22) hQ) (frozen_alloc_l (.cells #[.int .u64 (y : Int)] 22) hQ hQf)
  have hss : (((w5.alloc (.cells #[.int .u64 (y : Int)] 22)).alloc (.cells (u64s (List.replicate nq 0)).toArray 22)).setCell ⟨B + 1 + 1, 0, none⟩ vq).heap.size = w5.heap.size + 1 + 1 := by simp [World.setCell]
  rw [hss] at h7
  rw [World.size_alloc] at h6
  refine ⟨cell_alloc_l _ ((cell_other _ vq (by omega)).trans (cell_alloc_l _ (cell_alloc_l _ hA))), cell_alloc_l _ ((cell_other _ vq (by omega)).trans (cell_alloc_l _ (cell_alloc_l _ hB))),
    ⟨cell_alloc_l _ (World.cell?_setCell_same' _ _ _ (by rw [hq]; rfl)), frozen_alloc_l _ (World.cell?_setCell_same' _ _ _ (by rw [hq]; rfl)) (by rw [World.frozen?_setCell]; exact hqf)⟩,
    cell_alloc_l _ ((cell_other _ vq (by omega)).trans (cell_alloc_l _ (cell_alloc_l _ hD))), cell_alloc_l _ ((cell_other _ vq (by omega)).trans (cell_alloc_l _ h5)),
    ?_, h7, ?_, by rw [World.size_alloc, hss]⟩
  · refine (Ar.other h6 (by omega)).below (n := w5.heap.size + 1 + 1) ((Below.refl _ _).alloc (by rw [hss]; exact Nat.le_refl _) _) (by omega)
  · exact (((((hb.alloc (by omega) _).alloc (by simp; omega) _).setCell (by show B ≤ B + 1 + 1; omega) _).alloc (by rw [hss]; omega) _))

set_option maxRecDepth 100000 in
set_option maxHeartbeats 4000000 in
theorem divide_some (ga la ca m lb cb : Nat) (La : List Nat) (B2 : Option Addr) (b : List Nat) (w : World) (hg : Ar w ga La) (hL : Pl.Sm La) (hla : la ≤ La.length) (hca : la ≤ ca) (hl6 : la ≤ 1000000)
    (hm : m = lb + 1) (hlb : m = b.length) (hb6 : m ≤ 1000000) (ht : Pl.Tr b) (hB2 : Rq ga w B2 (u64s b)) :
    Calls Try.prog 67 #[.slice (some ⟨ga, 0, none⟩) la ca, .slice B2 m cb] w fun e w' => Divd w ga la ca La b e w' ∧ w.grownBy w' (some ga) := by
  have hm1 : (m : Int) - 1 = (lb : Int) := by omega
  have hm0 : ((m : Int) == 0) = false := by rw [beq_eq_false_iff_ne]; omega
  obtain ⟨bb, ob, rfl, hbne, hblt, hbc⟩ := hB2 (by rw [u64s_len, ← hlb]; omega)
  have c1 := hbc lb _ (u64s_at (by rw [← hlb]; omega))
  have hx := get_big ht.1.big lb
  have hdg : Pl.Dg (Pl.co b) lb := ht.dg (by rw [← hlb, hm])
  obtain ⟨x, hxe⟩ : ∃ x, x = b[lb]?.getD 0 := ⟨_, rfl⟩
  rw [← hxe] at c1 hx
  have hx0 : Fld.to x = Pl.co b lb := by rw [hxe]; rfl
  have hgl := hg.lt
  obtain ⟨B, hBe⟩ : ∃ B, B = w.heap.size := ⟨_, rfl⟩
  have hinv := fun W => inv_any x W hx
  have hil := Fld.pow_lt x 2305843009213693949
  have hito : Fld.to (Fld.pow x 2305843009213693949) = Fld.iv (Fld.to x) := Fld.to_powI _
  obtain ⟨y, hy⟩ : ∃ y, y = Fld.pow x 2305843009213693949 := ⟨_, rfl⟩
  rw [← hy] at hil hito
  simp only [← hy] at hinv
  have HG := Lib.hid hg
  have HL := Lib.hid hL
  have HLB := Lib.hid hlb
  have HT := Lib.hid ht
  have HBC := Lib.hid hbc
  have HDG := Lib.hid hdg
  have HX := Lib.hid hx0
  have HI := Lib.hid hinv
  have HIT := Lib.hid hito
  have HM := Lib.hid hm
  clear hg hL hlb ht hbc hdg hx0 hinv hito hxe hy hm
  have hbt4 := cell_alloc_l (.cells #[.int .i64 (lb : Int)] 3) (cell_alloc_l (.cells #[.slice none 0 0] 25) (cell_alloc_l (.cells #[.slice (some ⟨bb, ob, none⟩) m cb] 25) (cell_alloc_l (.cells #[.slice (some ⟨ga, 0, none⟩) la ca] 25) c1)))
  obtain ⟨nq, hnq⟩ : ∃ nq, nq = la - lb := ⟨_, rfl⟩
  obtain ⟨z, hz⟩ : ∃ z : Int, z = (la : Int) - (lb : Int) := ⟨_, rfl⟩
  have hz1 : (la : Int) - (lb : Int) = z := hz.symm
  have hif : (if 0 < z then z else 0) = (nq : Int) := by split <;> omega
  have hmk := mk64 nq (by omega)
  have HNQ := Lib.hid hnq
  clear c1 hnq hz
  refine (callsIn_wide (n := 3)).1 ?_
  refine callsIn_of_wp_marks Try.func67 rfl trivial ?_ rfl
  simp only [Try.ntmps67, List.size_toArray, List.length_cons, List.length_nil, Nat.reduceAdd, Nat.reduceSub, Array.replicate_succ, Array.replicate_zero, List.push_toArray, List.append_toArray, List.nil_append, List.cons_append]
  gi_wp2_with (first
    | (refine ⟨trivial, ?_⟩; gi_at_call 57; refine (callsIn_wide.2 (HI.out _)).mono ?_; rintro e w5 ⟨rfl, hb5⟩; obtain ⟨hA5, hB5, ⟨hQ5, hQf5⟩, hD5, hb05, hs5⟩ := div_cells hb5; clear hb5 hbt4;
       have hA6 := cell_alloc_l (.cells #[.int .u64 (y : Int)] 22) hA5; have hD6 := cell_alloc_l (.cells #[.int .u64 (y : Int)] 22) hD5; have hQ7 := cell_alloc_l (.cells (u64s (List.replicate nq 0)).toArray 22) (cell_alloc_l (.cells #[.int .u64 (y : Int)] 22) hQ5);
       have hQf7 := frozen_alloc_l (.cells (u64s (List.replicate nq 0)).toArray 22) (cell_alloc_l (.cells #[.int .u64 (y : Int)] 22) hQ5) (frozen_alloc_l (.cells #[.int .u64 (y : Int)] 22) hQ5 hQf5))
    | (refine ⟨trivial, ?_⟩; gi_at_call 75; refine (back_call Fence.wide (3 - 1) trivial rfl _ _ _ _).mono ?_; rintro e w' ⟨rfl, rfl⟩))
  obtain ⟨w8, hw8⟩ : ∃ w8, w8 = ((((w5.alloc (.cells #[.int .u64 (y : Int)] 22)).alloc (.cells (u64s (List.replicate nq 0)).toArray 22)).setCell ⟨w.heap.size + 1 + 1, 0, none⟩ (.slice (some ⟨w5.heap.size + 1, 0, none⟩) nq nq)).alloc (.cells #[.slice (some ⟨w5.heap.size + 1, 0, none⟩) nq nq] 25)) := ⟨_, rfl⟩
  rw [← hw8]
  obtain ⟨gA, gB, ⟨gQ, gQf⟩, gD, gI, gq, gS, gb, gs⟩ := div_cells2 hA5 hB5 hQ5 hQf5 hD5 hb05 hs5 hw8
  clear hw8 hA5 hB5 hQ5 hQf5 hD5 hb05 hA6 hD6 hQ7 hQf7 hif hz1 hm1 hm0
  rw [← hBe] at gA gB gQ gQf gD gb hs5 hgl hblt ⊢
  obtain ⟨I5, hI5⟩ : ∃ I5, I5 = w5.heap.size := ⟨_, rfl⟩
  obtain ⟨q, hq⟩ : ∃ q, q = I5 + 1 := ⟨_, rfl⟩
  rw [← hI5] at gQ gI gq gS gs hs5 ⊢
  rw [← hq] at gQ gq gS ⊢
  have hqe : I5 + 1 + 1 = q + 1 := by omega
  skip
  have HBE := Lib.hid hBe
  have hs8 : I5 + 3 ≤ w8.heap.size := by omega
  have HQE := Lib.hid hq
  have hq1 : q + 2 = I5 + 3 := by omega
  clear hI5 hq hqe hBe hmk
  have hgB : ga < B := by omega
  have hbB : bb < B := by omega
  have hG8 := HG.out.below gb (by have := HBE.out; omega)
  have HG8 := Lib.hid hG8
  have HQ8 := Lib.hid gq
  have HA8 := Lib.hid gA
  have HB8 := Lib.hid gB
  have HC8 := Lib.hid gQ
  have HCF8 := Lib.hid gQf
  have HD8 := Lib.hid gD
  have HI8 := Lib.hid gI
  have HS8 := Lib.hid gS
  have Hb8 := Lib.hid gb
  clear hG8 gq gA gB gQ gQf gD gI gS gb gs hgl hblt
  have hfz : Lst q nq w8 := ⟨_, HQ8.out, List.length_replicate, Pl.sm_zeros nq⟩
  have hreads : ∀ W, (Fx (I5 + 3) (fun k => k = ga ∨ k = q) w8 W ∧ Lst q nq W) → Reads (q + 1) (some ⟨q, 0, none⟩) nq nq (fun _ _ => True) W := by
    rintro W ⟨hW, L, hL1, hL2, hL3⟩
    refine ⟨(hW.cell (p := ⟨q + 1, 0, none⟩) (by show q + 1 < I5 + 3; omega) (by show ¬ (q + 1 = ga ∨ q + 1 = q); omega)).trans HS8.out, fun i hi => ⟨q, 0, L[i]?.getD 0, rfl, get_big hL3.big i, trivial, ?_⟩⟩
    rw [Nat.zero_add]
    exact hL1.cell (by omega)
  have HRD := Lib.hid hreads
  clear hreads
  have hsz : la - lb = nq := HNQ.out.symm
  refine wpIn_rangeFunc_ownF rfl (by omega) (gf := 84) (lb := #[.pointer (some ⟨q + 1, 0, none⟩)]) rfl trivial (enters_of Try.func84 (by kernel_rfl) rfl)
    (back_stops (3 - 1) (by omega) (q + 1) (some ⟨q, 0, none⟩) nq nq (by omega) (fun _ _ => True) (fun W => Fx (I5 + 3) (fun k => k = ga ∨ k = q) w8 W ∧ Lst q nq W) (Kq (I5 + 3) q ga nq) HRD.out (fun W W' h k => ⟨h.1.trans k.1, k.2 h.2⟩) w8
      (fun W h => ⟨Fx.of_below h (fun k hk _ => by omega), by obtain ⟨L, a, b, c⟩ := hfz; exact ⟨L, a.below h (by omega), b, c⟩⟩))
    Kq.trans (Kq.put hs8 (by omega)) (Below.refl _ _) (fun _ => rfl)
    (fun pre W => (∃ La' Lq, Ar W ga La' ∧ La'.length = La.length ∧ Pl.Sm La' ∧ Ar W q Lq ∧ Lq.length = nq ∧ Pl.Sm Lq ∧ (Seen nq (fun _ _ => True) pre → Pl.Dk (Pl.co (La.take la)) (Pl.co b) la nq pre.length (Pl.co (La'.take la)) (Pl.co Lq))) ∧
      Fx (I5 + 3) (fun k => k = ga ∨ k = q) w8 W)
    (fun _ _ _ => False)
    (OwnFrom.and (Own.from (fun s W1 W2 row hs hg' hr => by
        obtain ⟨La', Lq, h1, h2, h3, h4, h5⟩ := hs
        exact ⟨La', Lq, blk_kept h1 hg' hr, h2, h3, blk_kept h4 hg' hr, h5⟩) _) (Fx.own hs8 hs8))
    (fun _ _ _ _ _ hs _ _ => hs)
    ⟨⟨La, _, HG8.out, rfl, HL.out, HQ8.out, List.length_replicate, Pl.sm_zeros nq, fun _ => by rw [Pl.co_zeros]; exact Pl.Dk.start ((Pl.Lt.co _).mono (by rw [List.length_take]; omega))⟩, Fx.refl _ _ _⟩
    (fun t => { tmps := #[.slice (some ⟨ga, 0, none⟩) la ca, .slice (some ⟨bb, ob, none⟩) m cb, .pointer (some ⟨B, 0, none⟩), .pointer (some ⟨B + 1, 0, none⟩), .pointer (some ⟨B + 1 + 1, 0, none⟩), .slice none 0 0, .pointer (some ⟨B + 1 + 1 + 1, 0, none⟩), .pointer (some ⟨I5, 0, none⟩), .int .i64 (t.idx : Int),
      .slice (some ⟨bb, ob, none⟩) m cb, .int .i64 m, .bool false, .slice (some ⟨bb, ob, none⟩) m cb, .int .i64 m, .int .i64 lb, .slice (some ⟨bb, ob, none⟩) m cb, .int .i64 lb, .pointer (some ⟨bb, ob + lb, none⟩), .int .u64 x, .int .u64 y, .slice (some ⟨ga, 0, none⟩) la ca, .int .i64 la, .int .i64 lb, .int .i64 z, .int .i64 nq,
      .slice (some ⟨q, 0, none⟩) nq nq, .slice (some ⟨q, 0, none⟩) nq nq, .func (.func 84) #[] #[.pointer (some ⟨q + 1, 0, none⟩)], .int .i64 (t.idx : Int), .int .u64 (t.num : Int), undef, undef, undef, undef, undef, undef, undef, undef, undef, undef, undef, undef, undef, undef, undef, undef, undef, undef, undef, undef, undef, undef, undef, undef], defers := [] }) ?assign ?body ?done ?stop
  case assign =>
    intro l x W K hK
    unfold Pr.enc
    gi_wp2
    exact hK
  case body =>
    rintro l pre t W ⟨⟨La', Lq, hr, hl, hs, hrq, hlq, hsq, hdk⟩, hfx⟩ hlt
    have hpn := t.ilt
    obtain ⟨p, hp⟩ : ∃ p, p = t.idx := ⟨_, rfl⟩
    rw [← hp] at hpn
    simp only [← hp]
    obtain ⟨s, hse⟩ : ∃ s, s = p + lb := ⟨_, rfl⟩
    have hps : (p : Int) + (lb : Int) = (s : Int) := by omega
    have hsl : s < la := by omega
    have cA := (hfx.cell (p := ⟨B, 0, none⟩) (by show B < I5 + 3; omega) (by show ¬ (B = ga ∨ B = q); omega)).trans HA8.out
    have cB := (hfx.cell (p := ⟨B + 1, 0, none⟩) (by show B + 1 < I5 + 3; omega) (by show ¬ (B + 1 = ga ∨ B + 1 = q); omega)).trans HB8.out
    have cC := (hfx.cell (p := ⟨B + 1 + 1, 0, none⟩) (by show B + 1 + 1 < I5 + 3; omega) (by show ¬ (B + 1 + 1 = ga ∨ B + 1 + 1 = q); omega)).trans HC8.out
    have cD := (hfx.cell (p := ⟨B + 1 + 1 + 1, 0, none⟩) (by show B + 1 + 1 + 1 < I5 + 3; omega) (by show ¬ (B + 1 + 1 + 1 = ga ∨ B + 1 + 1 + 1 = q); omega)).trans HD8.out
    have cI := (hfx.cell (p := ⟨I5, 0, none⟩) (by show I5 < I5 + 3; omega) (by show ¬ (I5 = ga ∨ I5 = q); omega)).trans HI8.out
    have cT := hr.cell (i := s) (by omega)
    have hx1 := get_big hs.big s
    obtain ⟨x1, hx1e⟩ : ∃ x1, x1 = La'[s]?.getD 0 := ⟨_, rfl⟩
    rw [← hx1e] at cT hx1
    have cO := hrq.cell (i := p) (by omega)
    have fO := hrq.frozen p
    have hmul := fun W => mul_any x1 y W hx1 (by omega)
    have hvl := Fld.mul_lt x1 y
    obtain ⟨v, hv⟩ : ∃ v, v = Fld.mul x1 y := ⟨_, rfl⟩
    simp only [← hv] at hmul hvl
    have HMUL := Lib.hid hmul
    have HV := Lib.hid hv
    have HX1 := Lib.hid hx1e
    have HR := Lib.hid hr
    have HLN := Lib.hid hl
    have HS := Lib.hid hs
    have HRQ := Lib.hid hrq
    have HLQ := Lib.hid hlq
    have HSQ := Lib.hid hsq
    have HDK := Lib.hid hdk
    have HP := Lib.hid hp
    have HSE := Lib.hid hse
    clear hr hl hs hrq hlq hsq hdk hmul hv hx1e hp hse
    have p0 : (0 : Int) ≤ (p : Int) := by omega
    have p1 : (p : Int) < (nq : Int) := by omega
    have p2 : (0 : Int) ≤ (s : Int) := by omega
    have p3 : (s : Int) < (la : Int) := by omega
    have hws : IntKind.i64.wrap (s : Int) = (s : Int) := by rw [IntKind.wrap_i64]; omega
    gi_wp2
    refine region_round (by kernel_rfl) (by kernel_rfl) (fun _ _ h => h) ?_
    have h8 : (fun W' : World => W'.cell? ⟨B, 0, none⟩ = some (.slice (some ⟨ga, 0, none⟩) la ca) ∧ W'.cell? ⟨B + 1 + 1, 0, none⟩ = some (.slice (some ⟨q, 0, none⟩) nq nq) ∧ W'.cell? ⟨B + 1 + 1 + 1, 0, none⟩ = some (.int .i64 (lb : Int)) ∧ W'.cell? ⟨I5, 0, none⟩ = some (.int .u64 (y : Int)) ∧ W'.cell? ⟨ga, s, none⟩ = some (.int .u64 (x1 : Int))) W.drew := ⟨cA, cC, cD, cI, cT⟩
    refine wpAny_of_held (S := fun W' : World => W'.cell? ⟨B, 0, none⟩ = some (.slice (some ⟨ga, 0, none⟩) la ca) ∧ W'.cell? ⟨B + 1 + 1, 0, none⟩ = some (.slice (some ⟨q, 0, none⟩) nq nq) ∧ W'.cell? ⟨B + 1 + 1 + 1, 0, none⟩ = some (.int .i64 (lb : Int)) ∧ W'.cell? ⟨I5, 0, none⟩ = some (.int .u64 (y : Int)) ∧ W'.cell? ⟨ga, s, none⟩ = some (.int .u64 (x1 : Int))) _ _ _ _ ?_
    refine wpAnyH_take (i := 0) (v := ?_) rfl (by kernel_rfl) (by kernel_rfl) (by kernel_rfl) (fun _ _ _ h => h) (Or.inl ⟨by rfl, ?_⟩) (by assumption) ?_
    rotate_left
    · (intro w hSw; (try dsimp only at hSw); obtain ⟨s0, s1, s2, s3, s4⟩ := hSw; go_simp; try (with_reducible rfl))
    try simp only [Act.put, List.getElem_toArray, List.getElem_cons_zero, List.setIfInBounds_toArray, List.set_cons_zero, List.set_cons_succ]
    refine wpAnyH_take (i := 1) (v := ?_) rfl (by kernel_rfl) (by kernel_rfl) (by kernel_rfl) (fun _ _ _ h => h) (Or.inl ⟨by rfl, ?_⟩) (by assumption) ?_
    rotate_left
    · (intro w hSw; (try dsimp only at hSw); obtain ⟨s0, s1, s2, s3, s4⟩ := hSw; go_simp; try (with_reducible rfl))
    try simp only [Act.put, List.getElem_toArray, List.getElem_cons_succ, List.getElem_cons_zero, List.setIfInBounds_toArray, List.set_cons_zero, List.set_cons_succ]
    refine wpAnyH_take (i := 2) (v := ?_) rfl (by kernel_rfl) (by kernel_rfl) (by kernel_rfl) (fun _ _ _ h => h) (Or.inl ⟨by rfl, ?_⟩) (by assumption) ?_
    rotate_left
    · (intro w hSw; (try dsimp only at hSw); obtain ⟨s0, s1, s2, s3, s4⟩ := hSw; go_simp; try (with_reducible rfl))
    try simp only [Act.put, List.getElem_toArray, List.getElem_cons_succ, List.getElem_cons_zero, List.setIfInBounds_toArray, List.set_cons_zero, List.set_cons_succ]
    refine wpAnyH_take (i := 3) (v := ?_) rfl (by kernel_rfl) (by kernel_rfl) (by kernel_rfl) (fun _ _ _ h => h) (Or.inl ⟨by rfl, ?_⟩) (by assumption) ?_
    rotate_left
    · (intro w hSw; (try dsimp only at hSw); obtain ⟨s0, s1, s2, s3, s4⟩ := hSw; go_simp; try (with_reducible rfl))
    try simp only [Act.put, List.getElem_toArray, List.getElem_cons_succ, List.getElem_cons_zero, List.setIfInBounds_toArray, List.set_cons_zero, List.set_cons_succ]
    refine wpAnyH_take (i := 4) (v := ?_) rfl (by kernel_rfl) (by kernel_rfl) (by kernel_rfl) (fun _ _ _ h => h) (Or.inl ⟨by rfl, ?_⟩) (by assumption) ?_
    rotate_left
    · (intro w hSw; (try dsimp only at hSw); obtain ⟨s0, s1, s2, s3, s4⟩ := hSw; go_simp; try (with_reducible rfl))
    try simp only [Act.put, List.getElem_toArray, List.getElem_cons_succ, List.getElem_cons_zero, List.setIfInBounds_toArray, List.set_cons_zero, List.set_cons_succ]
    refine wpAnyH_take (i := 5) (v := ?_) rfl (by kernel_rfl) (by kernel_rfl) (by kernel_rfl) (fun _ _ _ h => h) (Or.inl ⟨by rfl, ?_⟩) (by assumption) ?_
    rotate_left
    · (intro w hSw; (try dsimp only at hSw); obtain ⟨s0, s1, s2, s3, s4⟩ := hSw; go_simp; try (with_reducible rfl))
    try simp only [Act.put, List.getElem_toArray, List.getElem_cons_succ, List.getElem_cons_zero, List.setIfInBounds_toArray, List.set_cons_zero, List.set_cons_succ]
    refine wpAnyH_take (i := 6) (v := ?_) rfl (by kernel_rfl) (by kernel_rfl) (by kernel_rfl) (fun _ _ _ h => h) (Or.inl ⟨by rfl, ?_⟩) (by assumption) ?_
    rotate_left
    · (intro w hSw; (try dsimp only at hSw); obtain ⟨s0, s1, s2, s3, s4⟩ := hSw; go_simp; try (with_reducible rfl))
    try simp only [Act.put, List.getElem_toArray, List.getElem_cons_succ, List.getElem_cons_zero, List.setIfInBounds_toArray, List.set_cons_zero, List.set_cons_succ]
    refine wpAnyH_take (i := 7) (v := ?_) rfl (by kernel_rfl) (by kernel_rfl) (by kernel_rfl) (fun _ _ _ h => h) (Or.inl ⟨by rfl, ?_⟩) (by assumption) ?_
    rotate_left
    · (intro w hSw; (try dsimp only at hSw); obtain ⟨s0, s1, s2, s3, s4⟩ := hSw; go_simp; try (with_reducible rfl))
    try simp only [Act.put, List.getElem_toArray, List.getElem_cons_succ, List.getElem_cons_zero, List.setIfInBounds_toArray, List.set_cons_zero, List.set_cons_succ]
    refine wpAnyH_take (i := 8) (v := ?_) rfl (by kernel_rfl) (by kernel_rfl) (by kernel_rfl) (fun _ _ _ h => h) (Or.inl ⟨by rfl, ?_⟩) (by assumption) ?_
    rotate_left
    · (intro w hSw; (try dsimp only at hSw); obtain ⟨s0, s1, s2, s3, s4⟩ := hSw; go_simp; try (with_reducible rfl))
    try simp only [Act.put, List.getElem_toArray, List.getElem_cons_succ, List.getElem_cons_zero, List.setIfInBounds_toArray, List.set_cons_zero, List.set_cons_succ]
    refine wpAnyH_ready (rs := [9]) (by kernel_rfl) (by simp) ?_
    refine AllReadyH.cons rfl (fun K hK => ?_) AllReadyH.nil
    go_simp
    go_wp2_with (go_at_call 24; ((with_reducible refine (HMUL.out _).mono ?_); rintro e w4 ⟨rfl, rfl⟩))
    refine hK.out _ _ h8 (fun hHeld => ?_)
    clear hK K
    try simp only [Act.put, List.getElem_toArray, List.getElem_cons_zero, List.setIfInBounds_toArray, List.set_cons_zero, List.set_cons_succ]
    refine wpAnyH_take (i := 10) (v := ?_) rfl (by kernel_rfl) (by kernel_rfl) (by kernel_rfl) (fun _ _ _ h => h) (Or.inl ⟨by rfl, ?_⟩) (by assumption) ?_
    rotate_left
    · (intro w hSw; (try dsimp only at hSw); obtain ⟨s0, s1, s2, s3, s4⟩ := hSw; go_simp; try (with_reducible rfl))
    try simp only [Act.put, List.getElem_toArray, List.getElem_cons_succ, List.getElem_cons_zero, List.setIfInBounds_toArray, List.set_cons_zero, List.set_cons_succ]
    refine wpAnyH_ready (rs := [11]) (by kernel_rfl) (by simp) ?_
    refine AllReadyH.cons rfl (fun K hK => ?_) AllReadyH.nil
    go_simp
    refine hK.out _ _ ⟨?_, ?_, ?_, ?_, ?_⟩ (fun hHeld2 => ?_)
    · exact (World.cell?_of_block (Below.heap_setCell _ _ _ _ (by show B ≠ q; omega))).trans cA
    · exact (World.cell?_of_block (Below.heap_setCell _ _ _ _ (by show B + 1 + 1 ≠ q; omega))).trans cC
    · exact (World.cell?_of_block (Below.heap_setCell _ _ _ _ (by show B + 1 + 1 + 1 ≠ q; omega))).trans cD
    · exact (World.cell?_of_block (Below.heap_setCell _ _ _ _ (by show I5 ≠ q; omega))).trans cI
    · exact (World.cell?_of_block (Below.heap_setCell _ _ _ _ (by show ga ≠ q; omega))).trans cT
    clear hK K
    refine wpAnyH_done (by kernel_rfl) ?_ _
    gi_wp2
    have hfw9 : Fx (I5 + 3) (fun k => k = ga ∨ k = q) W (W.setCell ⟨q, p, none⟩ (.int .u64 (v : Int))) := (Fx.refl _ _ W).set_ (.inr (.inr rfl)) _
    have hk9 := KeepsOthers.setCell W ⟨q, p, none⟩ (.int .u64 (v : Int))
    have hrq9 := HRQ.out.set_ p v
    have cV := hrq9.cell (i := p) (by rw [List.length_set]; have := HLQ.out; omega)
    rw [show (Lq.set p v)[p]?.getD 0 = v by rw [List.getElem?_set_self (by have := HLQ.out; omega)]; rfl] at cV
    have hr9 : Ar (W.setCell ⟨q, p, none⟩ (.int .u64 (v : Int))) ga La' := (Below.heap_setCell _ _ _ _ (by show ga ≠ q; omega)).trans HR.out
    have cA9 := (hfw9.cell (p := ⟨B, 0, none⟩) (by show B < I5 + 3; omega) (by show ¬ (B = ga ∨ B = q); omega)).trans cA
    have cB9 := (hfw9.cell (p := ⟨B + 1, 0, none⟩) (by show B + 1 < I5 + 3; omega) (by show ¬ (B + 1 = ga ∨ B + 1 = q); omega)).trans cB
    have cC9 := (hfw9.cell (p := ⟨B + 1 + 1, 0, none⟩) (by show B + 1 + 1 < I5 + 3; omega) (by show ¬ (B + 1 + 1 = ga ∨ B + 1 + 1 = q); omega)).trans cC
    have hfx9 := hfx.trans hfw9
    have hRq9 : Rq ga (W.setCell ⟨q, p, none⟩ (.int .u64 (v : Int))) (some ⟨bb, ob, none⟩) (u64s b) := fun _ => ⟨bb, ob, rfl, hbne, by have := hfx9.size; omega, fun i u hu => by
      rw [hfx9.cell (p := ⟨bb, ob + i, none⟩) (by show bb < I5 + 3; omega) (by show ¬ (bb = ga ∨ bb = q); omega), Hb8.out.cell (p := ⟨bb, ob + i, none⟩) (by show bb < B; omega)]
      exact HBC.out i u hu⟩
    obtain ⟨w9, hw9⟩ : ∃ w9, w9 = W.setCell ⟨q, p, none⟩ (.int .u64 (v : Int)) := ⟨_, rfl⟩
    rw [← hw9] at hfw9 hk9 hrq9 cV hr9 cA9 cB9 cC9 hfx9 hRq9 ⊢
    obtain ⟨nm, hnm⟩ : ∃ nm, nm = la - p := ⟨_, rfl⟩
    obtain ⟨dm, hdm⟩ : ∃ dm, dm = ca - p := ⟨_, rfl⟩
    have hsl2 := slice_from ga 0 la ca p nm dm (by omega) (by omega) hnm hdm
    rw [Nat.zero_add] at hsl2
    have hneg := fun W => neg_any v W (by omega)
    have hul := Fld.sub_lt 0 v
    obtain ⟨u, hu⟩ : ∃ u, u = Fld.sub 0 v := ⟨_, rfl⟩
    simp only [← hu] at hneg hul
    have hat : Calls Try.prog 76 #[.slice (some ⟨ga, p, none⟩) nm dm, .slice (some ⟨bb, ob, none⟩) m cb, .int .u64 u] w9.drew.drew fun e w' => (∃ r, e = .returned r) ∧ Ar w' ga (Pl.up La' p b u m) ∧ w9.drew.drew.grownBy w' (some ga) :=
      addTimes_any ga p nm dm La' (some ⟨bb, ob, none⟩) m cb b u w9.drew.drew hr9.drew.drew HS.out.big (by have := HM.out; have := HLN.out; have := HSE.out; omega) (by have := HM.out; have := HSE.out; omega) (by omega) HLB.out HT.out.1.big (by omega) hRq9.drew.drew
    have HNEG := Lib.hid hneg
    have HAT := Lib.hid hat
    have HU := Lib.hid hu
    have HR9 := Lib.hid hr9
    have HRQ9 := Lib.hid hrq9
    have HF9 := Lib.hid hfw9
    have HK9 := Lib.hid hk9
    have HFX9 := Lib.hid hfx9
    clear hneg hat hu hr9 hrq9 hfw9 hk9 hfx9 hRq9 hw9 hnm hdm hHeld hHeld2 h8 cA cB cC cD cI cT cO fO hfx hB2
    refine region_round (by kernel_rfl) (by kernel_rfl) (fun _ _ h => h) ?_
    have h9 : (fun W' : World => W'.cell? ⟨B, 0, none⟩ = some (.slice (some ⟨ga, 0, none⟩) la ca) ∧ W'.cell? ⟨B + 1, 0, none⟩ = some (.slice (some ⟨bb, ob, none⟩) m cb) ∧ W'.cell? ⟨B + 1 + 1, 0, none⟩ = some (.slice (some ⟨q, 0, none⟩) nq nq) ∧ W'.cell? ⟨q, p, none⟩ = some (.int .u64 (v : Int))) w9.drew.drew := ⟨cA9, cB9, cC9, cV⟩
    refine wpAny_of_held (S := fun W' : World => W'.cell? ⟨B, 0, none⟩ = some (.slice (some ⟨ga, 0, none⟩) la ca) ∧ W'.cell? ⟨B + 1, 0, none⟩ = some (.slice (some ⟨bb, ob, none⟩) m cb) ∧ W'.cell? ⟨B + 1 + 1, 0, none⟩ = some (.slice (some ⟨q, 0, none⟩) nq nq) ∧ W'.cell? ⟨q, p, none⟩ = some (.int .u64 (v : Int))) _ _ _ _ ?_
    refine wpAnyH_take (i := 0) (v := ?_) rfl (by kernel_rfl) (by kernel_rfl) (by kernel_rfl) (fun _ _ _ h => h) (Or.inl ⟨by rfl, ?_⟩) (by assumption) ?_
    rotate_left
    · (intro w hSw; (try dsimp only at hSw); obtain ⟨s0, s1, s2, s3⟩ := hSw; go_simp; try (with_reducible rfl))
    try simp only [Act.put, List.getElem_toArray, List.getElem_cons_zero, List.setIfInBounds_toArray, List.set_cons_zero, List.set_cons_succ]
    refine wpAnyH_take (i := 1) (v := ?_) rfl (by kernel_rfl) (by kernel_rfl) (by kernel_rfl) (fun _ _ _ h => h) (Or.inl ⟨by rfl, ?_⟩) (by assumption) ?_
    rotate_left
    · (intro w hSw; (try dsimp only at hSw); obtain ⟨s0, s1, s2, s3⟩ := hSw; go_simp; try (with_reducible rfl))
    try simp only [Act.put, List.getElem_toArray, List.getElem_cons_succ, List.getElem_cons_zero, List.setIfInBounds_toArray, List.set_cons_zero, List.set_cons_succ]
    refine wpAnyH_take (i := 2) (v := ?_) rfl (by kernel_rfl) (by kernel_rfl) (by kernel_rfl) (fun _ _ _ h => h) (Or.inl ⟨by rfl, ?_⟩) (by assumption) ?_
    rotate_left
    · (intro w hSw; (try dsimp only at hSw); obtain ⟨s0, s1, s2, s3⟩ := hSw; go_simp; try (with_reducible rfl))
    try simp only [Act.put, List.getElem_toArray, List.getElem_cons_succ, List.getElem_cons_zero, List.setIfInBounds_toArray, List.set_cons_zero, List.set_cons_succ]
    refine wpAnyH_take (i := 3) (v := ?_) rfl (by kernel_rfl) (by kernel_rfl) (by kernel_rfl) (fun _ _ _ h => h) (Or.inl ⟨by rfl, ?_⟩) (by assumption) ?_
    rotate_left
    · (intro w hSw; (try dsimp only at hSw); obtain ⟨s0, s1, s2, s3⟩ := hSw; go_simp; try (with_reducible rfl))
    try simp only [Act.put, List.getElem_toArray, List.getElem_cons_succ, List.getElem_cons_zero, List.setIfInBounds_toArray, List.set_cons_zero, List.set_cons_succ]
    refine wpAnyH_take (i := 4) (v := ?_) rfl (by kernel_rfl) (by kernel_rfl) (by kernel_rfl) (fun _ _ _ h => h) (Or.inl ⟨by rfl, ?_⟩) (by assumption) ?_
    rotate_left
    · (intro w hSw; (try dsimp only at hSw); obtain ⟨s0, s1, s2, s3⟩ := hSw; go_simp; try (with_reducible rfl))
    try simp only [Act.put, List.getElem_toArray, List.getElem_cons_succ, List.getElem_cons_zero, List.setIfInBounds_toArray, List.set_cons_zero, List.set_cons_succ]
    refine wpAnyH_take (i := 5) (v := ?_) rfl (by kernel_rfl) (by kernel_rfl) (by kernel_rfl) (fun _ _ _ h => h) (Or.inl ⟨by rfl, ?_⟩) (by assumption) ?_
    rotate_left
    · (intro w hSw; (try dsimp only at hSw); obtain ⟨s0, s1, s2, s3⟩ := hSw; go_simp; try (with_reducible rfl))
    try simp only [Act.put, List.getElem_toArray, List.getElem_cons_succ, List.getElem_cons_zero, List.setIfInBounds_toArray, List.set_cons_zero, List.set_cons_succ]
    refine wpAnyH_take (i := 6) (v := ?_) rfl (by kernel_rfl) (by kernel_rfl) (by kernel_rfl) (fun _ _ _ h => h) (Or.inl ⟨by rfl, ?_⟩) (by assumption) ?_
    rotate_left
    · (intro w hSw; (try dsimp only at hSw); obtain ⟨s0, s1, s2, s3⟩ := hSw; go_simp; try (with_reducible rfl))
    try simp only [Act.put, List.getElem_toArray, List.getElem_cons_succ, List.getElem_cons_zero, List.setIfInBounds_toArray, List.set_cons_zero, List.set_cons_succ]
    refine wpAnyH_take (i := 7) (v := ?_) rfl (by kernel_rfl) (by kernel_rfl) (by kernel_rfl) (fun _ _ _ h => h) (Or.inl ⟨by rfl, ?_⟩) (by assumption) ?_
    rotate_left
    · (intro w hSw; (try dsimp only at hSw); obtain ⟨s0, s1, s2, s3⟩ := hSw; go_simp; try (with_reducible rfl))
    try simp only [Act.put, List.getElem_toArray, List.getElem_cons_succ, List.getElem_cons_zero, List.setIfInBounds_toArray, List.set_cons_zero, List.set_cons_succ]
    refine wpAnyH_ready (rs := [8]) (by kernel_rfl) (by simp) ?_
    refine AllReadyH.cons rfl (fun K hK => ?_) AllReadyH.nil
    go_simp
    go_wp2_with (go_at_call 62; ((with_reducible refine (HNEG.out _).mono ?_); rintro e w10 ⟨rfl, rfl⟩))
    refine hK.out _ _ h9 (fun hHeld => ?_)
    clear hK K
    try simp only [Act.put, List.getElem_toArray, List.getElem_cons_zero, List.setIfInBounds_toArray, List.set_cons_zero, List.set_cons_succ]
    refine wpAnyH_ready (rs := [9]) (by kernel_rfl) (by simp) ?_
    refine AllReadyH.cons rfl (fun K hK => ?_) AllReadyH.nil
    go_simp
    go_wp2_with (go_at_call 76; ((with_reducible refine (HAT.out).mono ?_); rintro e w10 ⟨⟨r, rfl⟩, hr10, hg10'⟩; have hg10 := only_of_drew (only_of_drew hg10'); clear hg10'; have HR10 := Lib.hid hr10; clear hr10))
    have hsz9 : I5 + 3 ≤ w9.heap.size := by have := HFX9.out.size; omega
    refine hK.out _ _ ⟨?_, ?_, ?_, ?_⟩ (fun hHeld2 => ?_)
    · exact (World.cell?_of_block (a := ⟨B, 0, none⟩) (hg10.block B (by omega) (fun e => by injection e with e; omega))).trans cA9
    · exact (World.cell?_of_block (a := ⟨B + 1, 0, none⟩) (hg10.block (B + 1) (by omega) (fun e => by injection e with e; omega))).trans cB9
    · exact (World.cell?_of_block (a := ⟨B + 1 + 1, 0, none⟩) (hg10.block (B + 1 + 1) (by omega) (fun e => by injection e with e; omega))).trans cC9
    · exact (World.cell?_of_block (a := ⟨q, p, none⟩) (hg10.block q (by omega) (fun e => by injection e with e; omega))).trans cV
    clear hK K
    refine wpAnyH_done (by kernel_rfl) ?_ _
    have hiso : ∀ (j : Nat) (o : Obj), some ga = some j → w9.heap[j]? = some o → o.isCells = true := by
      intro j o e ho
      injection e with e
      subst e
      have h := HR9.out
      unfold Ar Blk at h
      rw [h] at ho
      injection ho with ho
      subst ho
      rfl
    have hfw10 : Fx (I5 + 3) (fun k => k = ga ∨ k = q) w9 w10 := Fx.of_grown hg10 fun j hj hx => ⟨by omega, fun e => hx (.inl (by injection e))⟩
    have hq10 : Ar w10 q (Lq.set p v) := (hg10.block q (by omega) (fun e => by injection e with e; omega)).trans HRQ9.out
    have hsq10 : Pl.Sm (Lq.set p v) := HSQ.out.set_ p (by omega)
    refine ⟨HK9.out.trans (KeepsOthers.of_grownBy hg10 hiso), ⟨HF9.out.trans hfw10, fun _ => ⟨_, hq10, by rw [List.length_set]; exact HLQ.out, hsq10⟩⟩, ⟨_, _, HR10.out, by rw [Pl.up_len]; exact HLN.out, Pl.up_sm HS.out _ _ _ _, hq10, by rw [List.length_set]; exact HLQ.out, hsq10, fun hseen => ?_⟩, HFX9.out.trans hfw10⟩
    obtain ⟨hs1, hs2⟩ := hseen.init
    rw [← HP.out] at hs2
    have hlb := HM.out
    have hla' := HLN.out
    have hmb := HLB.out
    have hnq := HNQ.out
    have hsee := HSE.out
    rw [List.length_append, List.length_singleton]
    refine Pl.Dk.step (p := p) (v := Fld.to v) (HDK.out hs1) hs2 (by omega) HDG.out ?_ ?_ ?_ (fun n => ?_)
    · rw [← HX.out, HV.out, Fld.to_mulF, HIT.out, ← hsee, Pl.co_take, if_pos hsl, Pl.co_at, ← HX1.out]
      have h1 := Fld.mul_iv (a := Fld.to x) (by rw [HX.out]; exact HDG.out.1)
      grind
    · exact (HDK.out hs1).2.2 p (by omega)
    · rw [Pl.up_take _ _ _ _ _ _ (by omega), Pl.co_up_all _ _ _ _ _ HLB.out (by rw [List.length_take]; omega), HU.out, Fld.to_subF]; rfl
    · exact Pl.co_set (by have := HLQ.out; omega) _ _
  case done =>
    rintro D ys W hD ⟨hseen, hyl⟩ ⟨⟨La', Lq, hr, hl, hs, hrq, hlq, hsq, hdk⟩, hfx⟩ hK
    have hdk2 := hdk hseen
    rw [hyl] at hdk2
    have cA := (hfx.cell (p := ⟨B, 0, none⟩) (by show B < I5 + 3; omega) (by show ¬ (B = ga ∨ B = q); omega)).trans HA8.out
    have cC := (hfx.cell (p := ⟨B + 1 + 1, 0, none⟩) (by show B + 1 + 1 < I5 + 3; omega) (by show ¬ (B + 1 + 1 = ga ∨ B + 1 + 1 = q); omega)).trans HC8.out
    have fC := (hfx.frozen (p := ⟨B + 1 + 1, 0, none⟩) (by show B + 1 + 1 < I5 + 3; omega) (by show ¬ (B + 1 + 1 = ga ∨ B + 1 + 1 = q); omega)).trans HCF8.out
    have hcut := fun W' h => cut_any ga la ca La' W' h (hs.take la) (by omega) hca (by omega)
    have HCUT := Lib.hid hcut
    have HR := Lib.hid hr
    have HLN := Lib.hid hl
    have HS := Lib.hid hs
    have HRQ := Lib.hid hrq
    have HLQ := Lib.hid hlq
    have HSQ := Lib.hid hsq
    have HDK := Lib.hid hdk2
    have HKD := Lib.hid hK
    have HFX := Lib.hid hfx
    clear hr hl hs hrq hlq hsq hdk hdk2 hcut hseen hyl hK hfx
    gi_wp2
    refine region_wide (by kernel_rfl) ?_
    have h9 : (fun W' : World => W'.cell? ⟨B, 0, none⟩ = some (.slice (some ⟨ga, 0, none⟩) la ca) ∧ W'.cell? ⟨B + 1 + 1, 0, none⟩ = some (.slice (some ⟨q, 0, none⟩) nq nq)) W.drew := ⟨cA, cC⟩
    refine wpAny_of_held (S := fun W' : World => W'.cell? ⟨B, 0, none⟩ = some (.slice (some ⟨ga, 0, none⟩) la ca) ∧ W'.cell? ⟨B + 1 + 1, 0, none⟩ = some (.slice (some ⟨q, 0, none⟩) nq nq)) _ _ _ _ ?_
    refine wpAnyH_take (i := 0) (v := ?_) rfl (by kernel_rfl) (by kernel_rfl) (by kernel_rfl) (fun _ _ _ h => h) (Or.inl ⟨by rfl, ?_⟩) (by assumption) ?_
    rotate_left
    · (intro w hSw; (try dsimp only at hSw); obtain ⟨s0, s1⟩ := hSw; go_simp; try (with_reducible rfl))
    try simp only [Act.put, List.getElem_toArray, List.getElem_cons_zero, List.setIfInBounds_toArray, List.set_cons_zero, List.set_cons_succ]
    refine wpAnyH_take (i := 1) (v := ?_) rfl (by kernel_rfl) (by kernel_rfl) (by kernel_rfl) (fun _ _ _ h => h) (Or.inl ⟨by rfl, ?_⟩) (by assumption) ?_
    rotate_left
    · (intro w hSw; (try dsimp only at hSw); obtain ⟨s0, s1⟩ := hSw; go_simp; try (with_reducible rfl))
    try simp only [Act.put, List.getElem_toArray, List.getElem_cons_succ, List.getElem_cons_zero, List.setIfInBounds_toArray, List.set_cons_zero, List.set_cons_succ]
    refine wpAnyH_ready (rs := [2]) (by kernel_rfl) (by simp) ?_
    refine AllReadyH.cons rfl (fun K hK => ?_) AllReadyH.nil
    go_simp
    go_wp2_with (go_at_call 77; ((with_reducible refine (HCUT.out _ HR.out.drew).mono ?_); rintro e w4 ⟨nr, hnr, rfl, his, rfl⟩; have HIS := Lib.hid his; clear his))
    refine hK.out _ _ h9 (fun hHeld => ?_)
    clear hK K
    try simp only [Act.put, List.getElem_toArray, List.getElem_cons_zero, List.setIfInBounds_toArray, List.set_cons_zero, List.set_cons_succ]
    refine wpAnyH_ready (rs := [3]) (by kernel_rfl) (by simp) ?_
    refine AllReadyH.cons rfl (fun K hK => ?_) AllReadyH.nil
    go_simp
    have hfw4 : Fx (I5 + 3) (fun k => k = ga ∨ k = B + 1 + 1) W (W.setCell ⟨B + 1 + 1, 0, none⟩ (.slice (some ⟨q, 0, none⟩) nq nq)) := (Fx.refl _ _ W).set_ (.inr (.inr rfl)) _
    have cC4 := World.cell?_setCell_same' W ⟨B + 1 + 1, 0, none⟩ (.slice (some ⟨q, 0, none⟩) nq nq) (by rw [cC]; rfl)
    refine hK.out _ _ ⟨(World.cell?_of_block (Below.heap_setCell _ _ _ _ (by show B ≠ B + 1 + 1; omega))).trans cA, cC4⟩ (fun hHeld2 => ?_)
    clear hK K
    try simp only [Act.put, List.getElem_toArray, List.getElem_cons_zero, List.setIfInBounds_toArray, List.set_cons_zero, List.set_cons_succ]
    refine wpAnyH_take (i := 4) (v := ?_) rfl (by kernel_rfl) (by kernel_rfl) (by kernel_rfl) (fun _ _ _ h => h) (Or.inl ⟨by rfl, ?_⟩) (by assumption) ?_
    rotate_left
    · (intro w hSw; (try dsimp only at hSw); obtain ⟨s0, s1⟩ := hSw; go_simp; try (with_reducible rfl))
    try simp only [Act.put, List.getElem_toArray, List.getElem_cons_succ, List.getElem_cons_zero, List.setIfInBounds_toArray, List.set_cons_zero, List.set_cons_succ]
    refine wpAnyH_done (by kernel_rfl) ?_ _
    obtain ⟨w4, hw4⟩ : ∃ w4, w4 = W.setCell ⟨B + 1 + 1, 0, none⟩ (.slice (some ⟨q, 0, none⟩) nq nq) := ⟨_, rfl⟩
    rw [← hw4] at cC4 hfw4 ⊢
    refine OnlyN.of ?_
    gi_wp2
    have hD1 : w4.drew.heap[D]? = W.heap[D]? := hw4 ▸ Below.heap_setCell _ _ _ _ (by show D ≠ B + 1 + 1; omega)
    refine ⟨by simp, .inl ⟨_, _, rfl, run_takeDeferred (hD1.trans HKD.out), ?_⟩⟩
    have hfd : Fx (I5 + 3) (fun k => k = ga ∨ k = B + 1 + 1) W (w4.drew.putObj D (.deferred none)) := hfw4.drew.put (by omega) _
    have hDg : D ≠ ga := by omega
    have hDq : D ≠ q := by omega
    have hg4 : Ar w4 ga La' := (hw4 ▸ Below.heap_setCell _ _ _ _ (by show ga ≠ B + 1 + 1; omega) : w4.heap[ga]? = W.heap[ga]?).trans HR.out
    have hq4 : Ar w4 q Lq := (hw4 ▸ Below.heap_setCell _ _ _ _ (by show q ≠ B + 1 + 1; omega) : w4.heap[q]? = W.heap[q]?).trans HRQ.out
    have hhq : (w4.drew.putObj D (.deferred none)).cell? ⟨B + 1 + 1, 0, none⟩ = some (.slice (some ⟨q, 0, none⟩) nq nq) := (World.cell?_of_block (World.putObj_heap_other (by show B + 1 + 1 ≠ D; omega))).trans cC4
    have hnq := HNQ.out
    have hdm := Pl.Dk.dm HDK.out HDG.out (by omega) (Pl.Po.co Lq)
    refine ⟨.tuple #[.slice (some ⟨q, 0, none⟩) nq nq, .slice (some ⟨ga, 0, none⟩) nr ca], ?_, ⟨q, nq, Lq, La', nr, rfl, ?_, ?_, HLQ.out, HSQ.out, ?_, HLN.out, hnr, HS.out, HIS.out.1, ?_, ?_⟩, ?_⟩
    · exact run_cell_tmp (fn := Try.f67) (p := 4) (u := 5) rfl _ _ ⟨B + 1 + 1, 0, none⟩ _ rfl hhq
    · have := HBE.out; omega
    · exact (World.putObj_heap_other hDq.symm).trans hq4
    · exact (World.putObj_heap_other hDg.symm).trans hg4
    · rw [HIS.out.2]; exact hdm
    · intro hta
      cases hq0 : nq with
      | zero => rw [List.eq_nil_of_length_eq_zero (HLQ.out.trans hq0)]; exact Pl.Tr.nil
      | succ j =>
        have hll : Lq.length = j + 1 := HLQ.out.trans hq0
        have hlt : Pl.Lt (Pl.co Lq) (j + 1) := hll ▸ Pl.Lt.co Lq
        exact Pl.Dg.tr HSQ.out hll ⟨Pl.quo_top hdm HDG.out hlt (hta.dg (by rw [List.length_take]; omega)), hlt⟩
    · refine Fx.grown (n := B) (X := fun k => k = ga) ((Fx.of_below Hb8.out (fun k hk _ => hk)).trans ((HFX.out.mono (m := B) (Y := fun k => k = ga) (fun k hk hx => ⟨by omega, by show ¬ (k = ga ∨ k = q); have hx' : ¬ k = ga := hx; omega⟩)).trans (hfd.mono (fun k hk hx => ⟨by omega, by show ¬ (k = ga ∨ k = B + 1 + 1); have hx' : ¬ k = ga := hx; omega⟩)))) (fun k hk hx => ⟨by have := HBE.out; omega, hx⟩)
  case stop =>
    rintro D c pre W _ _ h _
    exact h.elim
end Go.Proofs.Ytcbcmnbfflaicaa

/-
  Package poly's divide, as it is used: the dividend in memory of its own, the divisor anywhere else. For trimmed divisors, and up to a million numbers.
-/
namespace Go.Proofs.Ytcbcmnbfflaicaa
open Go.RowKit Go.Shelf
attribute [local go_sem] Oper.semAt_some

/-- The first n numbers of a block that is all known say s. -/
structure Own (w : World) (g n c : Nat) (L : List Nat) (s : Pl) : Prop where
  ar : Ar w g L
  le : n ≤ L.length
  cap : n ≤ c
  sm : Pl.Sm L
  co : Pl.co (L.take n) = s
namespace Own
variable {w w' : World} {g n c : Nat} {L : List Nat} {s : Pl}
theorem lt (h : Own w g n c L s) : g < w.heap.size := h.ar.lt
theorem below {m : Nat} (h : Own w g n c L s) (hb : Below m w w') (hg : g < m) : Own w' g n c L s := ⟨h.ar.below hb hg, h.le, h.cap, h.sm, h.co⟩
theorem grown {k : Nat} (h : Own w g n c L s) (hb : w.grownBy w' (some k)) (hg : g ≠ k) : Own w' g n c L s := ⟨(hb.block g h.lt (fun e => hg (by injection e))).trans h.ar, h.le, h.cap, h.sm, h.co⟩
theorem pt (h : Own w g n c L s) : Pt w (some ⟨g, 0, none⟩) n c (L.take n) := ⟨by rw [List.length_take]; have := h.le; omega, (h.ar.rd h.lt).take n, h.cap, fun e => by cases e⟩
theorem po (h : Own w g n c L s) : Pl.Po s := h.co ▸ Pl.Po.co _
theorem lt_co (h : Own w g n c L s) : Pl.Lt s n := h.co ▸ (Pl.Lt.co _).mono (by rw [List.length_take]; omega)
theorem len (h : Own w g n c L s) (ht : Pl.Tr (L.take n)) {k : Nat} (hs : Pl.Lt s k) : n ≤ k := by
  have h1 := ht.len (h.co.symm ▸ hs)
  rw [List.length_take] at h1
  have := h.le
  omega
theorem zero (h : Own w g n c L s) (ht : Pl.Tr (L.take n)) : n = 0 ↔ s = 0 := by
  have h1 := ht.len_zero
  rw [h.co, List.length_take] at h1
  have := h.le
  rw [← h1]
  omega
theorem slice (h : Own w g n c L s) : (L.take n).length = n := by rw [List.length_take]; have := h.le; omega
end Own
theorem Got.own {lo : Nat} {s : Pl} {e : Ending} {w' : World} (h : Got lo s e w') : ∃ g n c L, e = .returned (.slice (some ⟨g, 0, none⟩) n c) ∧ lo ≤ g ∧ Own w' g n c L s ∧ Pl.Tr (L.take n) := by
  obtain ⟨g, m, c, L, e, h1, h2, h3, h4, h5, h6⟩ := h
  exact ⟨g, m, c, L, e, h1, ⟨h2, h3, by omega, h5, h6.2⟩, h6.1⟩

/-- Two tuples of slices: quotient and rest, in memory of their own. -/
def Divs (w : World) (g n c : Nat) (L : List Nat) (s : Pl) (b : List Nat) (e : Ending) (w' : World) : Prop :=
  ∃ gq nq Lq nr L' Q R, e = .returned (.tuple #[.slice (some ⟨gq, 0, none⟩) nq nq, .slice (some ⟨g, 0, none⟩) nr c]) ∧ w.heap.size ≤ gq ∧ Own w' gq nq nq Lq Q ∧ Own w' g nr c L' R ∧ Pl.Tr (L'.take nr) ∧ L'.length = L.length ∧ nr ≤ n ∧
    Pl.DM s (Pl.co b) Q R ∧ (Pl.Tr (L.take n) → Pl.Tr (Lq.take nq))

theorem divide_own (g n c : Nat) (L : List Nat) (s : Pl) (A2 : Option Addr) (m cb : Nat) (b : List Nat) (w : World) (hg : Own w g n c L s) (hn : n ≤ 1000000) (hb : Pt w A2 m cb b) (ht : Pl.Tr b) (hm0 : 0 < m) (hm : m ≤ 1000000)
    (hne : ∀ bl off, A2 = some ⟨bl, off, none⟩ → bl ≠ g) :
    Calls Try.prog 67 #[.slice (some ⟨g, 0, none⟩) n c, .slice A2 m cb] w fun e w' => Divs w g n c L s b e w' ∧ w.grownBy w' (some g) := by
  obtain ⟨lb, rfl⟩ : ∃ lb, m = lb + 1 := ⟨m - 1, by omega⟩
  refine (divide_some g n c (lb + 1) lb cb L A2 b w hg.ar hg.sm hg.le hg.cap hn rfl hb.1 hm ht (fun hp => ?_)).mono ?_
  · obtain ⟨bl, off, e, h1, h2⟩ := hb.2.1 hp
    exact ⟨bl, off, e, hne _ _ e, h1, h2⟩
  · rintro e w' ⟨⟨gq, nq, Lq, La', nr, rfl, h1, h2, h3, h4, h5, h6, h7, h8, h9, h10, h11⟩, h12⟩
    have hq : Lq.take nq = Lq := List.take_of_length_le (by omega)
    refine ⟨⟨gq, nq, Lq, nr, La', Pl.co Lq, _, rfl, h1, ⟨h2, by omega, Nat.le_refl _, h4, by rw [hq]⟩, ⟨h5, by have := hg.le; omega, Nat.le_trans h7 hg.cap, h8, rfl⟩, h9, h6, h7, by rw [← hg.co]; exact h10, fun h => by rw [hq]; exact h11 h⟩, h12⟩

set_option maxRecDepth 100000 in
set_option maxHeartbeats 1000000 in
theorem divide_none (A A2 : Option Addr) (la ca cb : Nat) (w : World) :
    Calls Try.prog 67 #[.slice A la ca, .slice A2 (0 : Nat) cb] w fun e w' => e = .returned (.tuple #[.slice none 0 0, .slice none 0 0]) ∧ Below w.heap.size w w' := by
  refine (callsIn_wide (n := 3)).1 ?_
  refine callsIn_of_wp_marks Try.func67 rfl trivial ?_ rfl
  simp only [Try.ntmps67, List.size_toArray, List.length_cons, List.length_nil, Nat.reduceAdd, Nat.reduceSub, Array.replicate_succ, Array.replicate_zero, List.push_toArray, List.append_toArray, List.nil_append, List.cons_append]
  gi_wp2_with fail
  refine ⟨.tuple #[.slice none 0 0, .slice none 0 0], run_cell_tmp (fn := Try.f67) (p := 4) (u := 5) rfl _ _ ⟨w.heap.size + 1 + 1, 0, none⟩ _ rfl ?_, rfl, ?_⟩
  · have h := (cell_new_l ((w.alloc (.cells #[.slice A la ca] 25)).alloc (.cells #[.slice A2 (0 : Nat) cb] 25)) (.slice none 0 0) 25).1
    simp only [World.size_alloc] at h
    exact h
  · exact (((Below.refl _ w).alloc (Nat.le_refl _) _).alloc (by simp) _).alloc (by simp; omega) _

/-- What DivMod tells. -/
def DivT (lo : Nat) (a b : List Nat) (e : Ending) (w' : World) : Prop :=
  ∃ A1 n1 c1 l1 A2 n2 c2 l2, e = .returned (.tuple #[.slice A1 n1 c1, .slice A2 n2 c2]) ∧ Pt w' A1 n1 c1 l1 ∧ Pt w' A2 n2 c2 l2 ∧ Pl.Tr l1 ∧ Pl.Tr l2 ∧
    (Pl.co b = 0 → l1 = [] ∧ l2 = []) ∧ (Pl.co b ≠ 0 → Pl.DM (Pl.co a) (Pl.co b) (Pl.co l1) (Pl.co l2)) ∧ ∀ bl off, A1 = some ⟨bl, off, none⟩ → lo ≤ bl

theorem Pt.nil (w : World) : Pt w none 0 0 [] := ⟨rfl, Rd.nil, Nat.le_refl _, fun _ => rfl⟩

set_option maxRecDepth 100000 in
set_option maxHeartbeats 1000000 in
theorem divmod_poly (A A2 : Option Addr) (la ca lb cb : Nat) (a b : List Nat) (w : World) (hn : la = a.length) (hm : lb = b.length) (hla : la ≤ 1000000) (hlb : lb ≤ 1000000)
    (ha : ∀ y ∈ a, y < 18446744073709551616) (hb : ∀ y ∈ b, y < 18446744073709551616) (hA : Rd w.heap.size w A (u64s a)) (hA2 : Rd w.heap.size w A2 (u64s b)) :
    Calls Try.prog 51 #[.slice A la ca, .slice A2 lb cb] w fun e w' => DivT w.heap.size a b e w' ∧ Below w.heap.size w w' := by
  have h1 := trim_poly A la ca a w hn hla ha hA
  have h2 := fun w1 (hw : Below w.heap.size w w1) => trim_poly A2 lb cb b w1 hm hlb hb ((hA2.below hw).more hw.size)
  have H1 := Lib.hid h1
  have H2 := Lib.hid h2
  have HA := Lib.hid (hn ▸ hla : a.length ≤ 1000000)
  have HB := Lib.hid (hm ▸ hlb : b.length ≤ 1000000)
  clear h1 h2 hn hm ha hb hA hA2
  go_enter Try.func51, Try.ntmps51
  go_wp2_with fail
  refine H1.out.mono ?_
  rintro e w1 ⟨hg1, hb1⟩
  obtain ⟨g1, n1, c1, L1, rfl, hl1, ho1, ht1⟩ := hg1.own
  have HO1 := Lib.hid ho1
  have HT1 := Lib.hid ht1
  clear hg1 ho1 ht1
  go_wp2_with fail
  refine (H2.out w1 hb1).mono ?_
  rintro e w2 ⟨hg2, hb2⟩
  obtain ⟨g2, n2, c2, L2, rfl, hl2, ho2, ht2⟩ := hg2.own
  have hlt1 := HO1.out.lt
  have hne : g2 ≠ g1 := by omega
  have hn1 : n1 ≤ 1000000 := Nat.le_trans (HO1.out.len HT1.out (Pl.Lt.co a)) HA.out
  have hn2 : n2 ≤ 1000000 := Nat.le_trans (ho2.len ht2 (Pl.Lt.co b)) HB.out
  have ho3 := HO1.out.below hb2 hlt1
  have HO2 := Lib.hid ho2
  have HO3 := Lib.hid ho3
  have HT2 := Lib.hid ht2
  clear hg2 ho2 ht2 ho3
  have hs1 := hb1.size
  have hs2 := hb2.size
  have hb02 : Below w.heap.size w w2 := hb1.trans (hb2.mono hs1)
  rcases Nat.eq_zero_or_pos n2 with h0 | h0
  · subst h0
    have hz : Pl.co b = 0 := (HO2.out.zero HT2.out).1 rfl
    have HZ := Lib.hid hz
    clear hz
    go_wp2_with fail
    refine (divide_none (some ⟨g1, 0, none⟩) (some ⟨g2, 0, none⟩) n1 c1 c2 w2).mono ?_
    rintro e w3 ⟨rfl, hb3⟩
    go_wp2
    go_ret2
    exact ⟨⟨_, _, _, _, _, _, _, _, rfl, Pt.nil _, Pt.nil _, Pl.Tr.nil, Pl.Tr.nil, fun _ => ⟨rfl, rfl⟩, fun h => absurd HZ.out h, fun bl off e => by cases e⟩, hb02.trans (hb3.mono (by omega))⟩
  · go_wp2_with fail
    refine (divide_own g1 n1 c1 L1 _ (some ⟨g2, 0, none⟩) n2 c2 _ w2 HO3.out hn1 HO2.out.pt HT2.out h0 hn2 (fun bl off e => by injection e with e; injection e with e1; omega)).mono ?_
    rintro e w3 ⟨⟨gq, nq, Lq, nr, L', Q, R, rfl, k1, k2, k3, k4, k5, k6, k7, k8⟩, hg3⟩
    have K := Lib.hid (And.intro k2 (And.intro k3 (And.intro k4 (And.intro k7 k8))))
    clear k2 k3 k4 k7 k8
    go_wp2
    go_ret2
    obtain ⟨k2, k3, k4, k7, k8⟩ := K.out
    have hb3 : Below w.heap.size w2 w3 := below_only hg3 hl1 (by omega)
    refine ⟨⟨_, _, _, _, _, _, _, _, rfl, k2.pt, k3.pt, k8 HT1.out, k4, fun h => ?_, fun _ => ?_, fun bl off e => by injection e with e; injection e with e1; omega⟩, hb02.trans hb3⟩
    · have := (HO2.out.zero HT2.out).2 h; omega
    · rw [k2.co, k3.co, ← HO2.out.co]; exact k7
end Go.Proofs.Ytcbcmnbfflaicaa

/-
  Package poly's Gcd, in memory of its own; what was there was left as it was. For lists of numbers of 64 bits, up to a million of them.
-/
namespace Go.Proofs.Ytcbcmnbfflaicaa
open Go.RowKit

/-- Divided by its last coefficient, what is left of Euclid's divisions is what divides both. -/
theorem gc_end {A B X : Pl} {l : List Nat} (ht : Pl.Tr l) (hx : Pl.co l = X) (h : ∀ d, Pl.Po d → ((Pl.Dv d X ∧ Pl.Dv d 0) ↔ (Pl.Dv d A ∧ Pl.Dv d B))) : Pl.Gc A B (Pl.C (Fld.iv (Fld.to (lead l))) * X) := by
  subst hx
  rcases Nat.eq_zero_or_pos l.length with h0 | h0
  · rw [List.eq_nil_of_length_eq_zero h0, Pl.co_nil, Pl.mul_zero]
    refine ⟨Pl.Po.zero, fun d hd => ?_, fun n hn => absurd rfl hn.ne⟩
    rw [← h d hd, List.eq_nil_of_length_eq_zero h0, Pl.co_nil]
    exact ⟨fun h => ⟨h, h⟩, fun h => h.1⟩
  · obtain ⟨k, hk⟩ : ∃ k, l.length = k + 1 := ⟨l.length - 1, by omega⟩
    have hne := lead_ne ht h0
    have hdg := ht.dg hk
    refine ⟨(Pl.Po.C _).mul (Pl.Po.co l), fun d hd => ?_, fun n hn => ?_⟩
    · rw [Pl.dv_smul (Fld.iv_ne hne), ← h d hd]
      exact ⟨fun h => ⟨h, Pl.Dv.zero d⟩, fun h => h.1⟩
    · rw [hn.uniq (hdg.smul (Fld.iv_ne hne)), Pl.C_mul_at, Pl.co_at, show l[k]?.getD 0 = lead l by unfold lead; rw [hk, Nat.add_sub_cancel]]
      have := Fld.mul_iv hne
      grind

def GcdAt (w wr : World) (A B : Pl) (ny : Nat) (a b : Value) : Prop :=
  ∃ gx nx cx Lx X gy cy Ly Y, a = .slice (some ⟨gx, 0, none⟩) nx cx ∧ b = .slice (some ⟨gy, 0, none⟩) ny cy ∧ w.heap.size ≤ gx ∧ w.heap.size ≤ gy ∧ gx ≠ gy ∧ Own wr gx nx cx Lx X ∧ Pl.Tr (Lx.take nx) ∧ Own wr gy ny cy Ly Y ∧ Pl.Tr (Ly.take ny) ∧
    nx ≤ 1000000 ∧ (∀ d, Pl.Po d → ((Pl.Dv d X ∧ Pl.Dv d Y) ↔ (Pl.Dv d A ∧ Pl.Dv d B)))

set_option maxRecDepth 100000 in
set_option maxHeartbeats 2000000 in
theorem gcd_poly (A A2 : Option Addr) (la ca lb cb : Nat) (a b : List Nat) (w : World) (hn : la = a.length) (hm : lb = b.length) (hla : la ≤ 1000000) (hlb : lb ≤ 1000000)
    (ha : ∀ y ∈ a, y < 18446744073709551616) (hb : ∀ y ∈ b, y < 18446744073709551616) (hA : Rd w.heap.size w A (u64s a)) (hA2 : Rd w.heap.size w A2 (u64s b)) :
    Calls Try.prog 50 #[.slice A la ca, .slice A2 lb cb] w fun e w' => (∃ s, Poly w.heap.size s e w' ∧ Pl.Gc (Pl.co a) (Pl.co b) s) ∧ Below w.heap.size w w' := by
  have h1 := trim_poly A la ca a w hn hla ha hA
  have h2 := fun w1 (hw : Below w.heap.size w w1) => trim_poly A2 lb cb b w1 hm hlb hb ((hA2.below hw).more hw.size)
  have H1 := Lib.hid h1
  have H2 := Lib.hid h2
  have HA := Lib.hid (hn ▸ hla : a.length ≤ 1000000)
  have HB := Lib.hid (hm ▸ hlb : b.length ≤ 1000000)
  clear h1 h2 hn hm ha hb hA hA2
  go_enter Try.func50, Try.ntmps50
  go_wp2_with fail
  refine H1.out.mono ?_
  rintro e w1 ⟨hg1, hb1⟩
  obtain ⟨g1, n1, c1, L1, rfl, hl1, ho1, ht1⟩ := hg1.own
  have HO1 := Lib.hid ho1
  have HT1 := Lib.hid ht1
  clear hg1 ho1 ht1
  go_wp2_with fail
  refine (H2.out w1 hb1).mono ?_
  rintro e w2 ⟨hg2, hb2⟩
  obtain ⟨g2, n2, c2, L2, rfl, hl2, ho2, ht2⟩ := hg2.own
  have hlt1 := HO1.out.lt
  have hs1 := hb1.size
  have hs2 := hb2.size
  have hb02 : Below w.heap.size w w2 := hb1.trans (hb2.mono hs1)
  have hn1 : n1 ≤ 1000000 := Nat.le_trans (HO1.out.len HT1.out (Pl.Lt.co a)) HA.out
  have hn2 : n2 ≤ 1000000 := Nat.le_trans (ho2.len ht2 (Pl.Lt.co b)) HB.out
  have hat : GcdAt w w2 (Pl.co a) (Pl.co b) n2 (.slice (some ⟨g1, 0, none⟩) n1 c1) (.slice (some ⟨g2, 0, none⟩) n2 c2) :=
    ⟨g1, n1, c1, L1, _, g2, c2, L2, _, rfl, rfl, hl1, by omega, by omega, HO1.out.below hb2 hlt1, HT1.out, ho2, ht2, hn1, fun d _ => Iff.rfl⟩
  have HAT := Lib.hid hat
  clear hg2 ho2 ht2 hb2 hb1 hlt1 hn1 hat hs1 hs2 H1 H2 HA HB HO1 HT1
  go_wp2
  go_loopw [0, 1, 5, 6] (fun x y _ _ wr => ∃ ny, ny ≤ 1000000 ∧ GcdAt w wr (Pl.co a) (Pl.co b) ny x y ∧ Below w.heap.size w wr) (fun _ y _ _ _ => match y with | .slice _ n _ => n | _ => 0)
  case atStart => exact ⟨n2, hn2, HAT.out, hb02⟩
  case round =>
    obtain ⟨ny, hny, ⟨gx, nx, cx, Lx, X, gy, cy, Ly, Y, rfl, rfl, k1, k2, k3, k4, k5, k6, k7, k8, k9⟩, hbr⟩ := hrel
    have K := Lib.hid (And.intro k4 (And.intro k5 (And.intro k6 (And.intro k7 k9))))
    clear k4 k5 k6 k7 k9 HAT
    cases ny with
    | zero =>
      obtain ⟨k4, k5, k6, k7, k9⟩ := K.out
      have hy0 : Y = 0 := (k6.zero k7).1 rfl
      subst hy0
      have hmon := monic_any (some ⟨gx, 0, none⟩) nx cx (Lx.take nx) wr k4.pt k5 k8
      have HMON := Lib.hid hmon
      clear k4 k5 k6 k7 k9 hmon
      go_wp2_with fail
      refine HMON.out.mono ?_
      rintro e w5 ⟨⟨A5, n5, c5, l5, rfl, h5⟩, hb5⟩
      have H5 := Lib.hid h5
      clear h5
      go_wp2
      go_ret
      obtain ⟨k4, k5, k6, k7, k9⟩ := K.out
      exact ⟨⟨_, Poly.mono ⟨_, _, _, _, rfl, H5.out⟩ hbr.size, by rw [k4.co]; exact gc_end k5 k4.co k9⟩, hbr.trans (hb5.mono hbr.size)⟩
    | succ j =>
      obtain ⟨k4, k5, k6, k7, k9⟩ := K.out
      have hdg := k7.dg k6.slice
      have hdiv := divide_own gx nx cx Lx X (some ⟨gy, 0, none⟩) (j + 1) cy _ wr k4 k8 k6.pt k7 (by omega) hny (fun bl off e => by injection e with e; injection e with e1; omega)
      have HDIV := Lib.hid hdiv
      have HDG := Lib.hid hdg
      clear k4 k5 k6 k7 k9 hdiv hdg
      go_wp2_with fail
      refine HDIV.out.mono ?_
      rintro e w5 ⟨⟨gq, nq, Lq, nr, L', Q, R, rfl, d1, d2, d3, d4, d5, d6, d7, d8⟩, hg5⟩
      have K2 := Lib.hid (And.intro d2 (And.intro d3 (And.intro d4 d7)))
      clear d2 d3 d4 d7 d8 HDIV
      go_wp2
      obtain ⟨k4, k5, k6, k7, k9⟩ := K.out
      obtain ⟨d2, d3, d4, d7⟩ := K2.out
      rw [k6.co] at d7
      have hdg := HDG.out
      rw [k6.co] at hdg
      have hnr : nr ≤ j := d3.len d4 (d7.2.2.2 j hdg)
      go_round
      case rel =>
        refine ⟨nr, by omega, ⟨gy, j + 1, cy, Ly, Y, gx, cx, L', R, rfl, rfl, k2, k1, k3.symm, k6.grown hg5 k3.symm, k7, d3, d4, hny, fun d hd => ?_⟩, hbr.trans (below_only hg5 k1 hbr.size)⟩
        rw [← k9 d hd]
        exact Pl.Dv.left d7.1 d7.2.2.1
      case measure => show _ < _; simp; omega
end Go.Proofs.Ytcbcmnbfflaicaa

/-
  Package poly's power: what it tells is x and k, raised to n, up to a multiple of the modulo. For trimmed polynomials of up to a million numbers that are not 0.
-/
namespace Go.Proofs.Ytcbcmnbfflaicaa
open Go.RowKit

namespace Pl
/-- a and b leave the same, divided by m. -/
def Cg (m a b : Pl) : Prop := Dv m (a - b)
theorem Cg.of_dm {m a q r : Pl} (h : DM a m q r) : Cg m a r := ⟨q, h.1, by rw [h.2.2.1, add_sub, mul_comm]⟩
theorem Cg.trans {m a b c : Pl} (h : Cg m a b) (k : Cg m b c) : Cg m a c := by
  have h1 := Dv.add h k
  rwa [show a - b + (b - c) = a - c from ext fun n => by simp only [add_at, sub_at]; grind] at h1
theorem Cg.mul {m a b c d : Pl} (ha : Po a) (hd : Po d) (h : Cg m a b) (k : Cg m c d) : Cg m (a * c) (b * d) := by
  have h1 := Dv.add (Dv.mul k ha) (Dv.mul' h hd)
  rwa [mul_sub, sub_mul, show a * c - a * d + (a * d - b * d) = a * c - b * d from ext fun n => by simp only [add_at, sub_at]; grind] at h1
theorem Cg.refl (m a : Pl) : Cg m a a := ⟨0, Po.zero, by rw [mul_zero]; exact ext fun n => by rw [sub_at, zero_at]; exact Fin.sub_self⟩
theorem Cg.sq {m s R q r : Pl} {e : Nat} (hs : Po s) (hR : Po R) (h : Cg m (pw s e) R) (hd : DM (R * R) m q r) : Cg m (pw s (e + e)) r := by
  rw [pw_add]
  exact (Cg.mul (Po.pw hs e) hR h h).trans (Cg.of_dm hd)
theorem Cg.one {m s R q r : Pl} {e : Nat} (hs : Po s) (hR : Po R) (h : Cg m (pw s e) R) (hd : DM (s * R) m q r) : Cg m (pw s (e + 1)) r := by
  rw [show pw s (e + 1) = s * pw s e from by rw [pw, mul_comm]]
  exact (Cg.mul hs hR (Cg.refl m s) h).trans (Cg.of_dm hd)
end Pl

theorem Made.own {lo K : Nat} {s : Pl} {e : Ending} {w' : World} (h : Made lo K s e w') : ∃ g L, e = .returned (.slice (some ⟨g, 0, none⟩) K K) ∧ lo ≤ g ∧ Own w' g K K L s := by
  obtain ⟨g, L, e, h1, h2, h3, h4, h5⟩ := h
  exact ⟨g, L, e, h1, h2, by omega, Nat.le_refl _, h4, by rw [List.take_of_length_le (by omega)]; exact h5⟩

theorem product_own (A A2 : Option Addr) (la ca lb cb : Nat) (a b : List Nat) (w : World) (hn : la = a.length) (hm : lb = b.length) (hla : la ≤ 1000000) (hlb : lb ≤ 1000000)
    (ha : ∀ y ∈ a, y < 18446744073709551616) (hb : ∀ y ∈ b, y < 18446744073709551616) (hA : Rd w.heap.size w A (u64s a)) (hA2 : Rd w.heap.size w A2 (u64s b)) :
    Calls Try.prog 78 #[.slice A la ca, .slice A2 lb cb] w fun e w' => (∃ g K L, e = .returned (.slice (some ⟨g, 0, none⟩) K K) ∧ w.heap.size ≤ g ∧ K ≤ la + lb ∧ Own w' g K K L (Pl.co a * Pl.co b)) ∧ Below w.heap.size w w' := by
  rcases Nat.eq_zero_or_pos (la + lb) with h0 | h0
  · obtain rfl : la = 0 := by omega
    obtain rfl : lb = 0 := by omega
    rw [List.eq_nil_of_length_eq_zero hn.symm, List.eq_nil_of_length_eq_zero hm.symm, Pl.co_nil, Pl.zero_mul]
    refine (product_nil A A2 ca cb w).mono fun e w' ⟨h1, h2⟩ => ⟨?_, h2⟩
    obtain ⟨g, L, e, h3, h4⟩ := h1.own
    exact ⟨g, 0, L, e, h3, by omega, h4⟩
  · refine (product_any A A2 la ca lb cb (la + lb - 1) a b w hn hm h0 (by omega) hla hlb ha hb hA hA2).mono fun e w' ⟨h1, h2⟩ => ⟨?_, h2⟩
    obtain ⟨g, L, e, h3, h4⟩ := h1.own
    exact ⟨g, _, L, e, h3, by omega, h4⟩

theorem Pt.block {w : World} {A : Option Addr} {n c : Nat} {l : List Nat} (h : Pt w A n c l) (hn : 0 < n) {bl off : Nat} (e : A = some ⟨bl, off, none⟩) : bl < w.heap.size := by
  obtain ⟨b, o, e', h1, _⟩ := h.2.1 (by rw [u64s_len, ← h.1]; exact hn)
  rw [e] at e'
  injection e' with e'
  injection e' with e1
  omega

theorem and_one (e : Nat) (he : e < 18446744073709551616) : bits .and .u64 (e : Int) 1 = ((e % 2 : Nat) : Int) := by
  have h := u64_and_nat e 1 he (by omega)
  rw [Nat.and_one_is_mod] at h
  exact h

/-- What power keeps: a polynomial in memory of its own that is (x + k) raised to e, up to a multiple of the modulo. -/
def PwAt (w wr : World) (S M : Pl) (lm e : Nat) (x : Value) : Prop :=
  ∃ g n c L R, x = .slice (some ⟨g, 0, none⟩) n c ∧ w.heap.size ≤ g ∧ Own wr g n c L R ∧ Pl.Tr (L.take n) ∧ n ≤ lm ∧ Pl.Cg M (Pl.pw S e) R

set_option maxRecDepth 100000 in
set_option maxHeartbeats 2000000 in
theorem power_any (k n Ln : Nat) (A : Option Addr) (lm cm : Nat) (b : List Nat) (w : World) (hk : k < 18446744073709551616) (hn : n < 18446744073709551616) (hnl : n < 2 ^ Ln) (hl64 : Ln ≤ 64) (hlen : ∀ W, Calls Try.prog 79 #[.int .u64 (n : Int)] W fun e w' => e = .returned (.int .i64 (Ln : Int)) ∧ W = w')
    (hb : Pt w A lm cm b) (ht : Pl.Tr b) (hm0 : 0 < lm) (hm : lm ≤ 400000) :
    Calls Try.prog 71 #[.int .u64 (k : Int), .int .u64 (n : Int), .slice A lm cm] w fun e w' => (∃ x, e = .returned x ∧ PwAt w w' (Pl.lin (0 - Fld.to k)) (Pl.co b) lm n x) ∧ Below w.heap.size w w' := by
  have hb1 : Below w.heap.size w (w.alloc (.cells #[.int .u64 1] 22)) := (Below.refl _ w).alloc (Nat.le_refl _) _
  have ho1 : Own (w.alloc (.cells #[.int .u64 1] 22)) w.heap.size 1 1 [1] (Pl.C 1) := ⟨ar_new w [1], Nat.le_refl _, Nat.le_refl _, by intro x hx; rw [List.mem_singleton.1 hx]; omega, by
    show Pl.co [1] = Pl.C 1
    rw [Pl.co_cons, Pl.co_nil, Pl.sh_zero, Pl.add_zero]; rfl⟩
  have hdiv := fun g n c L s w1 (hw : Below w.heap.size w w1) (hlo : w.heap.size ≤ g) (ho : Own w1 g n c L s) hn => divide_own g n c L s A lm cm b w1 ho hn (hb.below hw) ht hm0 (by omega) (fun bl off e => by have := hb.block hm0 e; omega)
  obtain ⟨lb, hlb⟩ : ∃ lb, lm = lb + 1 := ⟨lm - 1, by omega⟩
  have hdg : Pl.Dg (Pl.co b) lb := ht.dg (hb.1 ▸ hlb)
  have HDG := Lib.hid hdg
  have hlb' : lb ≤ lm ∧ lb + 1 ≤ lm := by omega
  have HLB := Lib.hid hlb'
  have HDIV := Lib.hid hdiv
  have HO1 := Lib.hid ho1
  have HL := Lib.hid hlen
  have HB := Lib.hid hb
  have HT := Lib.hid ht
  clear hb ht hlen ho1 hdiv hdg hlb hlb'
  go_enter Try.func71, Try.ntmps71
  go_wp2_with fail
  refine (HDIV.out w.heap.size 1 1 [1] _ _ hb1 (Nat.le_refl _) HO1.out (by omega)).mono ?_
  rintro e w5 ⟨⟨gq, nq, Lq, nr, L', Q, R, rfl, d1, d2, d3, d4, d5, d6, d7, d8⟩, hg5⟩
  have hn0 : n / 2 ^ Ln = 0 := Nat.div_eq_of_lt hnl
  have hat : PwAt w w5 (Pl.lin (0 - Fld.to k)) (Pl.co b) lm (n / 2 ^ Ln) (.slice (some ⟨w.heap.size, 0, none⟩) nr 1) := ⟨_, nr, 1, L', R, rfl, Nat.le_refl _, d3, d4, by omega, by
    rw [hn0]; exact Pl.Cg.of_dm d7⟩
  have hbw : Below w.heap.size w w5 := hb1.trans (below_only hg5 (Nat.le_refl _) (by simp))
  have HAT := Lib.hid hat
  have HNL := Lib.hid hnl
  clear d1 d2 d3 d4 d5 d6 d7 d8 hg5 hat hn0 HO1 hb1 hnl
  go_wp2_with fail
  refine (HL.out w5).mono ?_
  rintro e w6 ⟨rfl, rfl⟩
  go_wp2
  go_loopw [8, 9] (fun x z wr => ∃ (kb : Nat) (zi : Int), z = .int .i64 zi ∧ zi = (kb : Int) - 1 ∧ kb ≤ Ln ∧ PwAt w wr (Pl.lin (0 - Fld.to k)) (Pl.co b) lm (n / 2 ^ kb) x ∧ Below w.heap.size w wr) (fun _ z _ => (intOf z + 1).toNat)
  case atStart => exact ⟨Ln, _, rfl, rfl, Nat.le_refl _, HAT.out, hbw⟩
  case round =>
    obtain ⟨kb, zi, rfl, hz, hkl, ⟨g, ng, cg, Lg, S, rfl, k1, k2, k3, k4, k5⟩, hbr⟩ := hrel
    have K := Lib.hid (And.intro k2 (And.intro k3 k5))
    clear k2 k3 k5 HAT
    cases kb with
    | zero =>
      obtain rfl : zi = -1 := by omega
      clear hz
      go_wp2
      go_ret
      obtain ⟨k2, k3, k5⟩ := K.out
      rw [Nat.pow_zero, Nat.div_one] at k5
      exact ⟨⟨_, rfl, _, _, _, _, _, rfl, k1, k2, k3, k4, k5⟩, hbr⟩
    | succ j =>
      obtain rfl : zi = (j : Int) := by omega
      have q0 : (0 : Int) ≤ (j : Int) := by omega
      clear hz
      obtain ⟨k2, k3, k5⟩ := K.out
      have hpr := product_own (some ⟨g, 0, none⟩) (some ⟨g, 0, none⟩) ng cg ng cg _ _ wr k2.pt.1 k2.pt.1 (by omega) (by omega) k3.1.big k3.1.big k2.pt.2.1 k2.pt.2.1
      rw [k2.co] at hpr
      have HPR := Lib.hid hpr
      have hbs := hbr.size
      clear k2 k3 k5 hpr
      go_wp2_with fail
      refine HPR.out.mono ?_
      rintro e w1 ⟨⟨g1, n1, L1, rfl, h1, h2, h3⟩, hb1⟩
      have H3 := Lib.hid h3
      clear h3 HPR
      have hb01 : Below w.heap.size w w1 := hbr.trans (hb1.mono hbs)
      have hb1s := hb1.size
      go_wp2_with fail
      refine (HDIV.out g1 n1 n1 L1 _ w1 hb01 (by omega) H3.out (by omega)).mono ?_
      rintro e w2 ⟨⟨gq, nq, Lq, nr, L', Q, R, rfl, d1, d2, d3, d4, d5, d6, d7, d8⟩, hg5⟩
      have K2 := Lib.hid (And.intro d2 (And.intro d3 (And.intro d4 (And.intro d7 hg5))))
      clear d1 d2 d3 d4 d5 d6 d7 d8 hg5
      have q64 : (j : Int) ≤ 64 := by omega
      obtain ⟨ex, hex⟩ : ∃ ex, ex = n / 2 ^ j := ⟨_, rfl⟩
      have hexn : ex < 18446744073709551616 := by rw [hex]; exact Nat.lt_of_le_of_lt (Nat.div_le_self _ _) hn
      have hdv : (n : Int) / 2 ^ j = (ex : Int) := by rw [hex, Int.natCast_ediv, Int.natCast_pow]; rfl
      have hand : bits .and .u64 (ex : Int) 1 = ((ex % 2 : Nat) : Int) := and_one ex hexn
      have hhalf : n / 2 ^ (j + 1) = ex / 2 := by rw [hex, Nat.pow_succ, Nat.div_div_eq_div_mul]
      have HEX := Lib.hid hex
      have HHF := Lib.hid hhalf
      clear hex hhalf hexn
      rcases Nat.mod_two_eq_zero_or_one ex with h0 | h0
      · rw [h0] at hand
        have H0 := Lib.hid h0
        clear h0
        rw [Int.natCast_zero] at hand
        go_wp2
        obtain ⟨k2, k3, k5⟩ := K.out
        obtain ⟨d2, d3, d4, d7, hg5⟩ := K2.out
        go_roundw
        case rel =>
          refine ⟨j, _, rfl, rfl, by omega, ⟨g1, nr, n1, L', R, rfl, by omega, d3, d4, Nat.le_trans (d3.len d4 (d7.2.2.2 _ HDG.out)) HLB.out.1, ?_⟩, hb01.trans (below_only hg5 (by omega) (by omega))⟩
          have h1 := Pl.Cg.sq (Pl.Po.lin _) k2.po k5 d7
          rw [HHF.out] at h1
          rw [← HEX.out]
          have h2 := H0.out
          rwa [show ex / 2 + ex / 2 = ex by omega] at h1
        case measure => simp [intOf]
      · rw [h0] at hand
        have H0 := Lib.hid h0
        clear h0
        rw [show ((1 : Nat) : Int) = 1 from rfl] at hand
        have hsub : Fld.to (Fld.sub 0 k) = 0 - Fld.to k := by rw [Fld.to_subF]; rfl
        have hsl := Fld.sub_lt 0 k
        have hneg := fun W => neg_any k W hk
        obtain ⟨u, hu⟩ : ∃ u, u = Fld.sub 0 k := ⟨_, rfl⟩
        simp only [← hu] at hneg hsl hsub
        have HNEG := Lib.hid hneg
        have HSUB := Lib.hid hsub
        clear hneg hsub hu
        go_wp2_with fail
        refine (HNEG.out w2).mono ?_
        rintro e w3 ⟨rfl, rfl⟩
        obtain ⟨d2, d3, d4, d7, hg5⟩ := K2.out
        have hnr : nr + 1 ≤ lm := Nat.le_trans (Nat.succ_le_succ (d3.len d4 (d7.2.2.2 _ HDG.out))) HLB.out.2
        have hb02 : Below w.heap.size w w2 := hb01.trans (below_only hg5 (by omega) (by omega))
        have hb2s := hb02.size
        have hrt := withRoot_any (some ⟨g1, 0, none⟩) nr n1 (nr + 1) u (L'.take nr) w2 d3.slice.symm rfl (by omega) d4.1.big (by omega) d3.pt.2.1
        rw [d3.co, HSUB.out] at hrt
        have HRT := Lib.hid hrt
        clear d2 d3 d4 d7 hg5 hrt
        go_wp2_with fail
        refine HRT.out.mono ?_
        rintro e w3 ⟨hmd, hb3⟩
        obtain ⟨g3, L3, rfl, h31, h32⟩ := hmd.own
        have H32 := Lib.hid h32
        have hb03 : Below w.heap.size w w3 := hb02.trans (hb3.mono hb2s)
        have hb3s := hb3.size
        clear h32 HRT hmd
        go_wp2_with fail
        refine (HDIV.out g3 (nr + 1) (nr + 1) L3 _ w3 hb03 (by omega) H32.out (by omega)).mono ?_
        rintro e w4 ⟨⟨gq4, nq4, Lq4, nr4, L4, Q4, R4, rfl, d1, d2, d3, d4, d5, d6, d7, d8⟩, hg4⟩
        have K3 := Lib.hid (And.intro d2 (And.intro d3 (And.intro d4 (And.intro d7 hg4))))
        clear d1 d2 d3 d4 d5 d6 d7 d8 hg4
        go_wp2
        obtain ⟨k2, k3, k5⟩ := K.out
        obtain ⟨d2, d3, d4, d7, hg5⟩ := K2.out
        obtain ⟨e2, e3, e4, e7, hg4⟩ := K3.out
        go_roundw
        case rel =>
          refine ⟨j, _, rfl, rfl, by omega, ⟨g3, nr4, nr + 1, L4, R4, rfl, by omega, e3, e4, Nat.le_trans (e3.len e4 (e7.2.2.2 _ HDG.out)) HLB.out.1, ?_⟩, hb03.trans (below_only hg4 (by omega) (by omega))⟩
          have h1 := Pl.Cg.one (Pl.Po.lin _) d3.po (Pl.Cg.sq (Pl.Po.lin _) k2.po k5 d7) e7
          rw [HHF.out] at h1
          rw [← HEX.out]
          have h2 := H0.out
          rwa [show ex / 2 + ex / 2 + 1 = ex by omega] at h1
        case measure => simp [intOf]
end Go.Proofs.Ytcbcmnbfflaicaa

/- ROOTS, WITHOUT ANY PROGRAM: what splits a polynomial that has as many roots as its degree, and why it comes to an end. No condition. -/
namespace Go.Proofs.Ytcbcmnbfflaicaa
open Fld (F to)
namespace Pl

/-- y, raised to e, is 1. -/
def Sq (e : Nat) (y : F) : Prop := Fld.up y e = 1
theorem up_one : ∀ e, Fld.up (1 : F) e = 1
  | 0 => rfl
  | e + 1 => by rw [Fld.up_succ, up_one e]; grind
theorem sq_one (e : Nat) : Sq e 1 := up_one e
theorem sq_zero {e : Nat} (he : 0 < e) : ¬ Sq e 0 := by
  obtain ⟨k, rfl⟩ : ∃ k, e = k + 1 := ⟨e - 1, by omega⟩
  intro h
  unfold Sq at h
  rw [Fld.up_succ, Fin.mul_zero] at h
  exact Fld.one_ne h.symm

/-- No two roots are told apart by a number below k. -/
def Sep (e : Nat) (f : Pl) (k : Nat) : Prop := ∀ j, j < k → ∀ x y, val f x = 0 → val f y = 0 → (Sq e (x + to j) ↔ Sq e (y + to j))

theorem sep_end {e k : Nat} {f : Pl} {x y : F} (he : 0 < e) (h : Sep e f k) (hx : val f x = 0) (hy : val f y = 0) (hne : x ≠ y) : k < 2305843009213693951 := by
  refine Nat.lt_of_not_le fun hk => ?_
  have hall : ∀ z : F, Sq e (z + (x - y)) ↔ Sq e z := fun z => by
    have hlt : (z - y).val < k := Nat.lt_of_lt_of_le (z - y).isLt hk
    have h1 := h (z - y).val hlt x y hx hy
    rw [Fld.to_self] at h1
    rwa [show x + (z - y) = z + (x - y) by grind, show y + (z - y) = z by grind] at h1
  have hn : ∀ n : Nat, Sq e (to n * (x - y)) ↔ Sq e 0 := by
    intro n
    induction n with
    | zero => rw [Fld.to_zero, Fin.zero_mul]
    | succ n ih =>
      rw [Fld.to_add, Fld.to_one, show (to n + 1) * (x - y) = to n * (x - y) + (x - y) by grind, hall]
      exact ih
  have hd : x - y ≠ 0 := fun h0 => hne (by grind)
  have h1 := hn (Fld.iv (x - y)).val
  rw [Fld.to_self, show Fld.iv (x - y) * (x - y) = 1 by have := Fld.mul_iv hd; grind] at h1
  exact sq_zero he (h1.1 (sq_one e))

theorem two_roots {f : Pl} {d : Nat} (hf : Full f) (hd : Dg f d) (h2 : 2 ≤ d) : ∃ x y, val f x = 0 ∧ val f y = 0 ∧ x ≠ y := by
  obtain ⟨d', hd', hl⟩ := hf
  have hdd := hd.uniq hd'
  have hnd := rts_nodup f
  match hr : rts f with
  | [] => rw [hr] at hl; simp at hl; omega
  | [_] => rw [hr] at hl; simp at hl; omega
  | a :: b :: l =>
    rw [hr] at hnd
    have ha : a ∈ rts f := by rw [hr]; simp
    have hb : b ∈ rts f := by rw [hr]; simp
    refine ⟨a, b, (mem_rts f a).1 ha, (mem_rts f b).1 hb, ?_⟩
    rintro rfl
    simp at hnd

theorem to_inj' {a b : Nat} (ha : a < 2305843009213693951) (hb : b < 2305843009213693951) (h : to a = to b) : a = b := by
  have h1 := congrArg Fin.val h
  rw [Fld.to_val, Fld.to_val, Nat.mod_eq_of_lt (show a < Fld.P from ha), Nat.mod_eq_of_lt (show b < Fld.P from hb)] at h1
  exact h1
/-- The numbers below P at which f is 0, each once. -/
def Rof (f : Pl) (rs : List Nat) : Prop := Sm rs ∧ rs.Nodup ∧ ∀ x, x < 2305843009213693951 → (x ∈ rs ↔ val f (to x) = 0)
theorem Rof.len {f : Pl} {rs : List Nat} {d : Nat} (h : Rof f rs) (hd : Dg f d) : rs.length ≤ d := by
  have h1 := roots_le d f hd (rs.map to) ?_ ?_
  · rwa [List.length_map] at h1
  · rw [List.Nodup, List.pairwise_map]
    refine List.Pairwise.imp_of_mem ?_ h.2.1
    intro a b ha hb hab e
    refine hab ?_
    exact to_inj' (h.1 a ha) (h.1 b hb) e
  · intro x hx
    obtain ⟨n, hn, rfl⟩ := List.mem_map.1 hx
    exact (h.2.2 n (h.1 n hn)).1 hn
theorem Rof.const {f : Pl} (h : Dg f 0) : Rof f [] := ⟨Sm.nil, List.nodup_nil, fun x _ => ⟨fun h => absurd h List.not_mem_nil, fun hx => by
  have h1 := rts_le h
  have h2 := (mem_rts f (to x)).2 hx
  rw [List.eq_nil_of_length_eq_zero (Nat.le_zero.1 h1)] at h2
  exact absurd h2 List.not_mem_nil⟩⟩
theorem sub_zero_f (a : F) : a = a - 0 := by grind
theorem Rof.line {f : Pl} (h : Lt f 2) (h1 : f 1 = 1) {c : Nat} (h0 : f 0 = to c) : Rof f [Fld.sub 0 c] := by
  have hs := Fld.sub_lt 0 c
  have e : f = lin (0 - to c) := ext fun n => by
    match n with
    | 0 => rw [h0]; show _ = 0 - (0 - to c); grind
    | 1 => rw [h1]; show (1 : F) = 1 - 0; exact sub_zero_f 1
    | n + 2 => rw [h (n + 2) (by omega), Lt.lin _ (n + 2) (by omega)]
  refine ⟨fun x hx => by rw [List.mem_singleton.1 hx]; exact hs, by simp, fun x hx => ?_⟩
  rw [List.mem_singleton, e, val_lin]
  constructor
  · rintro rfl
    rw [Fld.to_subF, Fld.to_zero]; grind
  · intro hv
    exact to_inj' hx hs (by rw [Fld.to_subF, Fld.to_zero]; grind)
theorem Rof.mul {f g h : Pl} {a b : List Nat} (hg : Po g) (hh : Po h) (e : f = g * h) (ha : Rof g a) (hb : Rof h b) (hd : ∀ x, ¬ (val g x = 0 ∧ val h x = 0)) : Rof f (a ++ b) := by
  refine ⟨fun x hx => ?_, List.nodup_append.2 ⟨ha.2.1, hb.2.1, fun x hx y hy hxy => ?_⟩, fun x hx => ?_⟩
  · rcases List.mem_append.1 hx with h1 | h1
    · exact ha.1 x h1
    · exact hb.1 x h1
  · subst hxy
    exact hd (to x) ⟨(ha.2.2 x (ha.1 x hx)).1 hx, (hb.2.2 x (hb.1 x hy)).1 hy⟩
  · rw [List.mem_append, ha.2.2 x hx, hb.2.2 x hx, e, val_mul hg hh, Fld.mul_eq_zero]

/-- A product of x less some numbers, no two the same, of which none below k tells two apart. -/
structure Spl (e : Nat) (f : Pl) (d k : Nat) : Prop where
  dg : Dg f d
  one : f d = 1
  full : Full f
  sep : Sep e f k

theorem to_less : to 2305843009213693950 + 1 = 0 := by
  have h := Fld.to_add 2305843009213693950 1
  rw [show to (2305843009213693950 + 1) = 0 from Fin.ext (by rw [Fld.to_val]; exact Nat.mod_self 2305843009213693951), Fld.to_one] at h
  exact h.symm

theorem Spl.step {e d k : Nat} {f R g : Pl} {m : F} (hm : m + 1 = 0) (h : Spl e f d k) (hR : Po R) (hc : Cg f (pw (lin (0 - to k)) e) R) (hg : Gc f (R + C m) g) :
    ∃ q d1 d2, DM f g q 0 ∧ d1 + d2 = d ∧ Spl e g d1 (k + 1) ∧ Spl e q d2 (k + 1) ∧ Po q ∧ f = g * q ∧ ∀ x, ¬ (val g x = 0 ∧ val q x = 0) := by
  obtain ⟨q, hq, hfq⟩ := hg.left
  have hf := h.dg.po
  have g0 : g ≠ 0 := by rintro rfl; exact h.dg.ne (by rw [hfq, zero_mul])
  have q0 : q ≠ 0 := by rintro rfl; exact h.dg.ne (by rw [hfq, mul_zero])
  obtain ⟨d1, hd1⟩ := hg.1.dg g0
  obtain ⟨d2, hd2⟩ := hq.dg q0
  have hdd : d1 + d2 = d := (hfq ▸ hd1.mul hd2 : Dg f (d1 + d2)).uniq h.dg
  have hg1 : g d1 = 1 := hg.2.2 d1 hd1
  have hq1 : q d2 = 1 := by
    have h1 := top_mul hd1.2 hd2.2
    rw [← hfq, hdd, h.one, hg1] at h1
    grind
  obtain ⟨fg, fq, hdis⟩ := full_parts hg.1 hq hfq h.full
  have hval : ∀ x, val f x = 0 → (val g x = 0 ↔ Sq e (x + to k)) := fun x hx => by
    rw [hg.val hf (hR.add (Po.C _)), val_add hR (Po.C _), val_C]
    have h1 := Dv.val hf hc hx
    rw [val_sub (Po.pw (Po.lin _) e) hR, val_pw (Po.lin _), val_lin, show x - (0 - to k) = x + to k by grind] at h1
    unfold Sq
    constructor
    · rintro ⟨_, h2⟩; grind
    · intro h2; exact ⟨hx, by grind⟩
  have fromg : ∀ x, val g x = 0 → val f x = 0 := fun x hx => Dv.val hg.1 hg.left hx
  have fromq : ∀ x, val q x = 0 → val f x = 0 := fun x hx => by rw [hfq, val_mul hg.1 hq, hx, Fin.mul_zero]
  refine ⟨q, d1, d2, ⟨hq, Po.zero, by rw [add_zero, mul_comm]; exact hfq, fun d hd => Lt.zero d⟩, hdd, ⟨hd1, hg1, fg, fun j hj x y hx hy => ?_⟩, ⟨hd2, hq1, fq, fun j hj x y hx hy => ?_⟩, hq, hfq, hdis⟩
  · rcases Nat.lt_or_ge j k with h1 | h1
    · exact h.sep j h1 x y (fromg x hx) (fromg y hy)
    · obtain rfl : j = k := by omega
      rw [← hval x (fromg x hx), ← hval y (fromg y hy)]
      exact ⟨fun _ => hy, fun _ => hx⟩
  · rcases Nat.lt_or_ge j k with h1 | h1
    · exact h.sep j h1 x y (fromq x hx) (fromq y hy)
    · obtain rfl : j = k := by omega
      rw [← hval x (fromq x hx), ← hval y (fromq y hy)]
      exact ⟨fun h2 => absurd ⟨h2, hx⟩ (hdis x), fun h2 => absurd ⟨h2, hy⟩ (hdis y)⟩

theorem lin_zero : lin (0 - to 0) = X := by
  rw [Fld.to_zero]
  exact ext fun n => by
    unfold lin
    rw [sub_at]
    cases n with
    | zero => rw [C_0]; grind
    | succ n => rw [C_s]; grind

theorem Spl.first {e : Nat} {a R g : Pl} {m : F} (hm : m + 1 = 0) (ha : Po a) (h0 : a ≠ 0) (hR : Po R) (hc : Cg a (pw (lin (0 - to 0)) 2305843009213693951) R) (hg : Gc a (R + sh (C m)) g) : ∃ d, Spl e g d 0 ∧ (∀ x, val g x = 0 ↔ val a x = 0) ∧ Dv g a := by
  have hs : R + sh (C m) = R - X := ext fun n => by
    rw [add_at, sub_at]
    match n with
    | 0 => show R 0 + 0 = R 0 - 0; grind
    | 1 => show R 1 + m = R 1 - 1; grind
    | n + 2 => show R (n + 2) + 0 = R (n + 2) - 0; grind
  rw [hs] at hg
  rw [lin_zero] at hc
  have hxp : Dv g xp := by
    have h1 := Dv.add (Dv.trans hg.left hc) hg.right
    unfold xp
    rwa [show pw X 2305843009213693951 - R + (R - X) = pw X 2305843009213693951 - X from ext fun n => by simp only [add_at, sub_at]; grind] at h1
  have g0 : g ≠ 0 := by
    rintro rfl
    exact h0 hg.left.zero_left
  obtain ⟨d, hd⟩ := hg.1.dg g0
  refine ⟨d, ⟨hd, hg.2.2 d hd, full_of_dv hg.1 hxp, fun j hj => absurd hj (Nat.not_lt_zero j)⟩, fun x => ?_, hg.left⟩
  rw [hg.val ha (hR.sub Po.X)]
  refine ⟨fun h => h.1, fun h => ⟨h, ?_⟩⟩
  have h1 := Dv.val ha hc h
  rw [val_sub (Po.pw Po.X _) hR, val_pw Po.X, val_X, pow_P] at h1
  rw [val_sub hR Po.X, val_X]
  grind
end Pl
end Go.Proofs.Ytcbcmnbfflaicaa

/-
  How many bits a number has: the two powers of package poly, and small numbers.
-/
namespace Go.Proofs.Ytcbcmnbfflaicaa
open Go.RowKit
set_option maxRecDepth 100000 in
set_option maxHeartbeats 1000000 in
theorem len_half (w : World) : Calls Try.prog 79 #[.int .u64 ((1152921504606846975 : Nat) : Int)] w fun e w' => e = .returned (.int .i64 ((60 : Nat) : Int)) ∧ w = w' := by
  rw [show ((1152921504606846975 : Nat) : Int) = 1152921504606846975 from rfl, show ((60 : Nat) : Int) = 60 from rfl]
  go_enter Try.func79, Try.ntmps79
  go_wp2
  go_ret
  exact ⟨by kernel_rfl, rfl⟩
set_option maxRecDepth 100000 in
set_option maxHeartbeats 1000000 in
theorem len_P (w : World) : Calls Try.prog 79 #[.int .u64 ((2305843009213693951 : Nat) : Int)] w fun e w' => e = .returned (.int .i64 ((61 : Nat) : Int)) ∧ w = w' := by
  rw [show ((2305843009213693951 : Nat) : Int) = 2305843009213693951 from rfl, show ((61 : Nat) : Int) = 61 from rfl]
  go_enter Try.func79, Try.ntmps79
  go_wp2
  go_ret
  exact ⟨by kernel_rfl, rfl⟩
end Go.Proofs.Ytcbcmnbfflaicaa

/-
  Package poly's split: it appends the roots of a product of x less some numbers, no two the same, each once. For up to 300000 roots.
-/
namespace Go.Proofs.Ytcbcmnbfflaicaa
open Go.RowKit

theorem own_kept {w w' : World} {lo n : Nat} {v : Value} {xs : List Value} (h : w.ownsRow lo 22 1 v n xs) (hb : ∀ k, some k = v.ownBlock → k < w.heap.size → w'.heap[k]? = w.heap[k]?) : w'.ownsRow lo 22 1 v n xs := by
  refine ⟨h.1, ?_⟩
  rcases h.2 with h1 | ⟨g, cap, cur, rfl, h2, h3, h4⟩
  · exact .inl h1
  · refine .inr ⟨g, cap, cur, rfl, h2, ?_, h4⟩
    rw [hb g rfl (Array.getElem?_eq_some_iff.1 h3).1]
    exact h3
theorem own_ge {w : World} {lo n k : Nat} {v : Value} {xs : List Value} (h : w.ownsRow lo 22 1 v n xs) (hk : some k = v.ownBlock) : lo ≤ k ∧ k < w.heap.size := by
  rcases h.2 with ⟨rfl, _⟩ | ⟨g, cap, cur, rfl, h2, h3, _⟩
  · cases hk
  · have : k = g := by simpa [Value.ownBlock] using hk
    subst this
    exact ⟨h2, (Array.getElem?_eq_some_iff.1 h3).1⟩

/-- A variable at Br that holds a list of its own, from block lo on. -/
def RBox (w : World) (Br lo : Nat) (v : Value) (old : List Nat) : Prop :=
  w.cell? ⟨Br, 0, none⟩ = some v ∧ w.frozen? ⟨Br, 0, none⟩ = false ∧ (∃ A c, v = .slice A old.length c) ∧ w.ownsRow lo 22 1 v old.length (u64s old)
theorem RBox.kept {w w' : World} {Br lo : Nat} {v : Value} {old : List Nat} (h : RBox w Br lo v old) (hb : ∀ k, k < w.heap.size → (k = Br ∨ some k = v.ownBlock) → w'.heap[k]? = w.heap[k]?) : RBox w' Br lo v old := by
  have hlt := World.block_lt_of_cell? w _ h.1
  exact ⟨(World.cell?_of_block (a := ⟨Br, 0, none⟩) (hb Br hlt (.inl rfl))).trans h.1, (World.frozen?_of_block (a := ⟨Br, 0, none⟩) (hb Br hlt (.inl rfl))).trans h.2.1, h.2.2.1, own_kept h.2.2.2 fun k hk hl => hb k hl (.inr hk)⟩
theorem RBox.below {w w' : World} {Br lo : Nat} {v : Value} {old : List Nat} (h : RBox w Br lo v old) (hb : Below w.heap.size w w') : RBox w' Br lo v old := h.kept fun k hk _ => hb.block k hk
theorem Pt.fx {w w' : World} {A : Option Addr} {n c : Nat} {l : List Nat} {X : Nat → Prop} (h : Pt w A n c l) (hf : Fx w.heap.size X w w') (hx : ∀ bl off, A = some ⟨bl, off, none⟩ → ¬ X bl) : Pt w' A n c l := by
  refine ⟨h.1, fun hp => ?_, h.2.2⟩
  obtain ⟨b, o, e, h1, h2⟩ := h.2.1 hp
  have := hf.size
  exact ⟨b, o, e, by omega, fun i u hu => (hf.cell (p := ⟨b, o + i, none⟩) h1 (hx b o e)).trans (h2 i u hu)⟩

set_option maxRecDepth 100000 in
theorem push_run {w : World} {Br lo : Nat} {v : Value} {old : List Nat} (x : Nat) (h : RBox w Br lo v old) (hlo : lo ≤ w.heap.size) (hBr : Br < lo) (hlen : old.length + 1 ≤ 10000000) :
    ∃ g c w1, (Builtin.append_ #[25, 25] 25 #[v, .slice (some ⟨w.heap.size, 0, none⟩) 1 1]).run Try.prog (w.alloc (.cells #[.int .u64 (x : Int)] 22)).drew = .ok (.slice (some ⟨g, 0, none⟩) (old.length + 1) c) w1 ∧
      w1.ownsRow lo 22 1 (.slice (some ⟨g, 0, none⟩) (old.length + 1) c) (old.length + 1) (u64s (old ++ [x])) ∧ (w.alloc (.cells #[.int .u64 (x : Int)] 22)).grownBy w1 v.ownBlock ∧ w1.cell? ⟨Br, 0, none⟩ = some v ∧ w1.frozen? ⟨Br, 0, none⟩ = false ∧ (some g = v.ownBlock ∨ w.heap.size < g) := by
  obtain ⟨i0, hi, hz0, hz1, hz2⟩ := info_parts info_u64
  have hown : (w.alloc (.cells #[.int .u64 (x : Int)] 22)).ownsRow lo 22 1 v old.length (u64s old) := h.2.2.2.alloc _
  have hnews : ∀ j u, [Value.int .u64 (x : Int)][j]? = some u → (w.alloc (.cells #[.int .u64 (x : Int)] 22)).drew.cell? ((⟨w.heap.size, 0, none⟩ : Addr).add j) = some u := fun j u hu => by
    match j with
    | 0 =>
      injection hu with hu
      subst hu
      exact (cell_new_l w (.int .u64 (x : Int)) 22).1
    | j + 1 => cases hu
  have hsz : (w.alloc (.cells #[.int .u64 (x : Int)] 22)).drew.heap.size = w.heap.size + 1 := by show (w.alloc _).heap.size = _; simp
  obtain ⟨v', w', hr, h2, h3, h4⟩ := run_append_own (P := Try.prog) (w := (w.alloc (.cells #[.int .u64 (x : Int)] 22)).drew) lo 25 25 22 i0 (.int .u64 0) 1 8 Try.underlying25 hi hz0 hz1 hz2 rfl (by decide) v old.length (u64s old) hown
    ⟨w.heap.size, 0, none⟩ 1 1 [.int .u64 (x : Int)] rfl hnews (by simp [Value.oneCell']) (by simp [maxLen]; omega) (by omega) (by omega)
  have h3 := only_of_drew h3
  rcases h2.2 with ⟨rfl, e0⟩ | ⟨g, cap, cur, rfl, h5⟩
  · omega
  · have hlt := World.block_lt_of_cell? w _ h.1
    have hnb : some Br ≠ v.ownBlock := fun e => by have := (own_ge h.2.2.2 e).1; omega
    have hbl := h3.block Br (by simp; exact Nat.lt_succ_of_lt hlt) hnb
    have hgo : some g = v.ownBlock ∨ w.heap.size < g := by
      rcases hown.2 with ⟨rfl, e0⟩ | ⟨g0, cap0, cur0, rfl, b1, b2, b3, b4, b5, b6⟩
      · have hr2 := run_append_nil (P := Try.prog) (w := (w.alloc (.cells #[.int .u64 (x : Int)] 22)).drew) 25 25 22 i0 (.int .u64 0) Try.underlying25 hi hz0 ⟨w.heap.size, 0, none⟩ 1 1 [.int .u64 (x : Int)] (by rw [hz1]; rfl) hnews (by omega) (by omega) (by rw [hz2]; omega)
        rw [hr2, hsz] at hr
        injection hr with hv _
        injection hv with hv _ _
        injection hv with hv
        injection hv with hv
        right; omega
      · by_cases hroom : old.length + 1 ≤ cap0
        · have hr2 := run_append_room (P := Try.prog) (w := (w.alloc (.cells #[.int .u64 (x : Int)] 22)).drew) 25 25 22 i0 Try.underlying25 hi g0 old.length cap0 cur0 b2 ⟨w.heap.size, 0, none⟩ 1 1 [.int .u64 (x : Int)] (by rw [hz1]; rfl) hnews (by simp [Value.oneCell']) hroom (by rw [hz1, b5]; simp; omega)
          rw [hr2] at hr
          injection hr with hv _
          injection hv with hv _ _
          injection hv with hv
          injection hv with hv
          left; rw [hv]; rfl
        · have hr2 := run_append_grow (P := Try.prog) (w := (w.alloc (.cells #[.int .u64 (x : Int)] 22)).drew) 25 25 22 i0 (.int .u64 0) Try.underlying25 hi hz0 ⟨g0, 0, none⟩ old.length cap0 (u64s old) (by rw [hz1]; exact hown.1) (hown.cells (g := g0) rfl) ⟨w.heap.size, 0, none⟩ 1 1 [.int .u64 (x : Int)] (by rw [hz1]; rfl) hnews (by omega) (by omega) (by rw [hz2]; exact growslice_fits (by omega) (by omega))
          rw [hr2, hsz] at hr
          injection hr with hv _
          injection hv with hv _ _
          injection hv with hv
          injection hv with hv
          right; omega
    refine ⟨g, cap, w', hr, by rw [u64s_snoc]; exact h2, h3, (World.cell?_of_block (a := ⟨Br, 0, none⟩) hbl).trans (cell_alloc_l _ h.1), (World.frozen?_of_block (a := ⟨Br, 0, none⟩) hbl).trans (frozen_alloc_l _ h.1 h.2.1), hgo⟩

theorem push_wp {w : World} {Br lo : Nat} {v : Value} {old : List Nat} (x : Nat) (h : RBox w Br lo v old) (hlo : lo ≤ w.heap.size) (hBr : Br < lo) (hlen : old.length + 1 ≤ 10000000) {o : Oper} {a : Act} {K : Act → World → Prop} {Q : Exit → Act → World → Prop} (s y : Operand)
    (ho : o.op = .call { callee := .builtin .append, args := #[s, y], argTypes := #[25, 25] }) (ht : o.type = 25) (hs : a.eval s = v) (hy : a.eval y = .slice (some ⟨w.heap.size, 0, none⟩) 1 1)
    (hk : ∀ g c w1, w1.ownsRow lo 22 1 (.slice (some ⟨g, 0, none⟩) (old.length + 1) c) (old.length + 1) (u64s (old ++ [x])) → (w.alloc (.cells #[.int .u64 (x : Int)] 22)).grownBy w1 v.ownBlock → w1.cell? ⟨Br, 0, none⟩ = some v → w1.frozen? ⟨Br, 0, none⟩ = false → (some g = v.ownBlock ∨ w.heap.size < g) →
      K (a.put o.dst (.slice (some ⟨g, 0, none⟩) (old.length + 1) c)) w1) : o.wp Try.prog a (w.alloc (.cells #[.int .u64 (x : Int)] 22)).drew K Q := by
  obtain ⟨g, c, w1, hr, h1, h2, h3, h4, h5⟩ := push_run x h hlo hBr hlen
  unfold Oper.wp execOp
  simp only [ho, ht, resolve, invoke, builtin, Sem.run_bind, Sem.run_pure, Result.andThen_ok, List.map_toArray, List.map_cons, List.map_nil, hs, hy, hr]
  exact hk g c w1 h1 h2 h3 h4 h5

/-- What split does. -/
def Splitted (F : Pl) (Br lo : Nat) (v : Value) (old : List Nat) (w : World) (e : Ending) (w' : World) : Prop :=
  (∃ r, e = .returned r) ∧ (∃ v' rs, RBox w' Br lo v' (old ++ rs) ∧ Pl.Rof F rs ∧ ∀ k, some k = v'.ownBlock → some k = v.ownBlock ∨ w.heap.size ≤ k) ∧ Fx w.heap.size (fun k => k = Br ∨ some k = v.ownBlock) w w'

theorem len_of_dg {l : List Nat} {d : Nat} (ht : Pl.Tr l) (h : Pl.Dg (Pl.co l) d) : l.length = d + 1 := by
  rcases Nat.eq_zero_or_pos l.length with h0 | h0
  · exact absurd (ht.len_zero.1 h0) h.ne
  · obtain ⟨k, hk⟩ : ∃ k, l.length = k + 1 := ⟨l.length - 1, by omega⟩
    rw [hk, (ht.dg hk).uniq h]

set_option maxRecDepth 100000 in
set_option maxHeartbeats 2000000 in
theorem split_const (Br Bs lo k : Nat) (F : Pl) (A : Option Addr) (cf : Nat) (v : Value) (old : List Nat) (w : World) (hd : Pl.Dg F 0) (hr : RBox w Br lo v old) :
    Calls Try.prog 69 #[.slice A 1 cf, .int .u64 (k : Int), .pointer (some ⟨Br, 0, none⟩), .pointer (some ⟨Bs, 0, none⟩)] w (Splitted F Br lo v old w) := by
  have HR := Lib.hid hr
  clear hr
  go_enter Try.func69, Try.ntmps69
  go_wp2
  refine bodyPost_ret (results_none rfl _ _ _) rfl ?_
  exact ⟨⟨_, rfl⟩, ⟨v, [], by rw [List.append_nil]; exact HR.out, Pl.Rof.const hd, fun k h => .inl h⟩, Fx.refl _ _ _⟩

set_option maxRecDepth 100000 in
set_option maxHeartbeats 2000000 in
theorem split_line (Br Bs lo k : Nat) (F : Pl) (A : Option Addr) (cf : Nat) (l : List Nat) (v : Value) (old : List Nat) (w : World) (hF : Pl.Is l F) (hp : Pt w A 2 cf l) (hd : Pl.Dg F 1) (h1 : F 1 = 1) (hBr : Br < lo) (hlo : lo ≤ w.heap.size) (hlen : old.length + 1 ≤ 1000000) (hr : RBox w Br lo v old) :
    Calls Try.prog 69 #[.slice A 2 cf, .int .u64 (k : Int), .pointer (some ⟨Br, 0, none⟩), .pointer (some ⟨Bs, 0, none⟩)] w (Splitted F Br lo v old w) := by
  obtain ⟨bl, off, rfl, hlt, hcl⟩ := hp.2.1 (by rw [u64s_len, ← hp.1]; omega)
  have c0 := hcl 0 _ (u64s_at (by rw [← hp.1]; omega))
  rw [Nat.add_zero] at c0
  have hx := get_big hF.1.1.big 0
  have hrof : Pl.Rof F [Fld.sub 0 (l[0]?.getD 0)] := Pl.Rof.line hd.2 h1 (by rw [← hF.2]; rfl)
  obtain ⟨x, hxe⟩ : ∃ x, x = l[0]?.getD 0 := ⟨_, rfl⟩
  rw [← hxe] at c0 hx hrof
  have hneg := fun W => neg_any x W hx
  obtain ⟨u, hu⟩ : ∃ u, u = Fld.sub 0 x := ⟨_, rfl⟩
  rw [← hu] at hrof
  simp only [← hu] at hneg
  obtain ⟨vA, vc, rfl⟩ := hr.2.2.1
  have hcr := hr.1
  have HR := Lib.hid hr
  have HN := Lib.hid hneg
  have HRO := Lib.hid hrof
  have hl := hlen
  clear hr hneg hcl hp hF hd h1 hxe hu hrof hlen
  have done : ∀ r g c w1, w1.cell? ⟨Br, 0, none⟩ = some (.slice vA old.length vc) → w1.frozen? ⟨Br, 0, none⟩ = false → w1.ownsRow lo 22 1 (.slice (some ⟨g, 0, none⟩) (old.length + 1) c) (old.length + 1) (u64s (old ++ [u])) →
      (w.alloc (.cells #[.int .u64 (u : Int)] 22)).grownBy w1 (Value.slice vA old.length vc).ownBlock → (some g = (Value.slice vA old.length vc).ownBlock ∨ w.heap.size < g) → Splitted F Br lo (.slice vA old.length vc) old w (.returned r) (w1.setCell ⟨Br, 0, none⟩ (.slice (some ⟨g, 0, none⟩) (old.length + 1) c)) := by
    intro r g c w1 hc1 hf1 hown hgr hgo
    have hlen2 : (old ++ [u]).length = old.length + 1 := by simp
    have hgl := own_ge (k := g) hown rfl
    have hs1 := hgr.size
    rw [World.size_alloc] at hs1
    have hgB : g ≠ Br := by omega
    have hgg : ∀ k, some k = (Value.slice (some ⟨g, 0, none⟩) (old.length + 1) c).ownBlock → k = g := fun k hk => by simpa [Value.ownBlock] using hk
    have hown1 := own_kept (w' := w1.setCell ⟨Br, 0, none⟩ (.slice (some ⟨g, 0, none⟩) (old.length + 1) c)) hown (fun k hk _ => by rw [hgg k hk]; exact Below.heap_setCell _ _ _ _ hgB)
    refine ⟨⟨r, rfl⟩, ⟨.slice (some ⟨g, 0, none⟩) (old.length + 1) c, [u], ⟨World.cell?_setCell_same' _ _ _ (by rw [hc1]; rfl), by rw [World.frozen?_setCell]; exact hf1, ⟨_, _, by rw [hlen2]⟩, by rw [hlen2]; exact hown1⟩, HRO.out, fun k hk => ?_⟩, Fx.set_ ?_ (.inr (.inl rfl)) _⟩
    · rw [hgg k hk]
      exact hgo.imp id (fun h => by omega)
    · refine Fx.trans (Fx.of_below ((Below.refl w.heap.size w).alloc (Nat.le_refl _) _) (fun k hk _ => hk)) (Fx.of_grown hgr fun k hk hx => ⟨by rw [World.size_alloc]; omega, fun e => hx (.inr e)⟩)
  have DONE := Lib.hid done
  clear done
  have hcra := cell_alloc_l (.cells #[.int .u64 (u : Int)] 22) hcr
  go_enter Try.func69, Try.ntmps69
  go_wp2
  refine wp_region_any (by kernel_rfl) ?_
  (try (change wpAny _ _ _ _ _ _ _ (World.drew _)))
  refine wpAny_take (i := 1) (v := ?_) rfl (by kernel_rfl) (by kernel_rfl) (by kernel_rfl) (fun _ _ _ h => h) (Or.inl ⟨by rfl, ?_⟩) ?_
  rotate_left
  · (intro w; go_simp; try (with_reducible rfl))
  try simp only [Act.put, List.getElem_toArray, List.getElem_cons_succ, List.getElem_cons_zero, List.setIfInBounds_toArray, List.set_cons_zero, List.set_cons_succ]
  refine wpAny_take (i := 2) (v := ?_) rfl (by kernel_rfl) (by kernel_rfl) (by kernel_rfl) (fun _ _ _ h => h) (Or.inl ⟨by rfl, ?_⟩) ?_
  rotate_left
  · (intro w; go_simp; try (with_reducible rfl))
  try simp only [Act.put, List.getElem_toArray, List.getElem_cons_succ, List.getElem_cons_zero, List.setIfInBounds_toArray, List.set_cons_zero, List.set_cons_succ]
  refine wpAny_ready (rs := [0, 3]) (by kernel_rfl) (by simp) ?_
  refine AllReady.cons rfl (fun K hK => ?_) (AllReady.cons rfl (fun K hK => ?_) AllReady.nil)
  · go_simp
    refine hK _ _ ?_
    clear hK K
    try simp only [Act.put, List.getElem_toArray, List.getElem_cons_succ, List.getElem_cons_zero, List.setIfInBounds_toArray, List.set_cons_zero, List.set_cons_succ]
    refine wpAny_ready (rs := [3]) (by kernel_rfl) (by simp) ?_
    refine AllReady.cons rfl (fun K hK => ?_) AllReady.nil
    go_simp
    refine hK _ _ ?_
    clear hK K
    try simp only [Act.put, List.getElem_toArray, List.getElem_cons_succ, List.getElem_cons_zero, List.setIfInBounds_toArray, List.set_cons_zero, List.set_cons_succ]
    refine wpAny_ready (rs := [4]) (by kernel_rfl) (by simp) ?_
    refine AllReady.cons rfl (fun K hK => ?_) AllReady.nil
    go_simp
    go_wp2_with (go_at_call 62; refine (HN.out _).mono ?_; rintro e w' ⟨rfl, rfl⟩)
    try simp only [Act.put, List.getElem_toArray, List.getElem_cons_succ, List.getElem_cons_zero, List.setIfInBounds_toArray, List.set_cons_zero, List.set_cons_succ]
    refine wpAny_ready (rs := [5]) (by kernel_rfl) (by simp) ?_
    refine AllReady.cons rfl (fun K hK => ?_) AllReady.nil
    go_simp
    refine hK _ _ ?_
    clear hK K
    try simp only [Act.put, List.getElem_toArray, List.getElem_cons_succ, List.getElem_cons_zero, List.setIfInBounds_toArray, List.set_cons_zero, List.set_cons_succ]
    refine wpAny_ready (rs := [6]) (by kernel_rfl) (by simp) ?_
    refine AllReady.cons rfl (fun K hK => ?_) AllReady.nil
    rw [if_pos (by rfl)]
    refine push_wp u HR.out hlo hBr (by omega) (.tmp 15) (.tmp 20) rfl rfl rfl rfl (fun g c w1 hown hgr hc1 hf1 hgo => hK _ _ ?_)
    clear hK K
    have HO := Lib.hid hown
    have HG := Lib.hid hgr
    have HGO := Lib.hid hgo
    clear hown hgr hgo
    try simp only [Act.put, List.getElem_toArray, List.getElem_cons_succ, List.getElem_cons_zero, List.setIfInBounds_toArray, List.set_cons_zero, List.set_cons_succ]
    refine wpAny_ready (rs := [7]) (by kernel_rfl) (by simp) ?_
    refine AllReady.cons rfl (fun K hK => ?_) AllReady.nil
    go_simp
    refine hK _ _ ?_
    clear hK K
    refine wpAny_done (by kernel_rfl) ?_ _
    go_wp2
    refine bodyPost_ret (results_none rfl _ _ _) rfl ?_
    exact DONE.out _ g c w1 hc1 hf1 HO.out HG.out HGO.out
  · go_simp
    refine hK _ _ ?_
    clear hK K
    try simp only [Act.put, List.getElem_toArray, List.getElem_cons_succ, List.getElem_cons_zero, List.setIfInBounds_toArray, List.set_cons_zero, List.set_cons_succ]
    refine wpAny_ready (rs := [0, 4]) (by kernel_rfl) (by simp) ?_
    refine AllReady.cons rfl (fun K hK => ?_) (AllReady.cons rfl (fun K hK => ?_) AllReady.nil)
    · go_simp
      refine hK _ _ ?_
      clear hK K
      try simp only [Act.put, List.getElem_toArray, List.getElem_cons_succ, List.getElem_cons_zero, List.setIfInBounds_toArray, List.set_cons_zero, List.set_cons_succ]
      refine wpAny_ready (rs := [4]) (by kernel_rfl) (by simp) ?_
      refine AllReady.cons rfl (fun K hK => ?_) AllReady.nil
      go_simp
      go_wp2_with (go_at_call 62; refine (HN.out _).mono ?_; rintro e w' ⟨rfl, rfl⟩)
      try simp only [Act.put, List.getElem_toArray, List.getElem_cons_succ, List.getElem_cons_zero, List.setIfInBounds_toArray, List.set_cons_zero, List.set_cons_succ]
      refine wpAny_ready (rs := [5]) (by kernel_rfl) (by simp) ?_
      refine AllReady.cons rfl (fun K hK => ?_) AllReady.nil
      go_simp
      refine hK _ _ ?_
      clear hK K
      try simp only [Act.put, List.getElem_toArray, List.getElem_cons_succ, List.getElem_cons_zero, List.setIfInBounds_toArray, List.set_cons_zero, List.set_cons_succ]
      refine wpAny_ready (rs := [6]) (by kernel_rfl) (by simp) ?_
      refine AllReady.cons rfl (fun K hK => ?_) AllReady.nil
      rw [if_pos (by rfl)]
      refine push_wp u HR.out hlo hBr (by omega) (.tmp 15) (.tmp 20) rfl rfl rfl rfl (fun g c w1 hown hgr hc1 hf1 hgo => hK _ _ ?_)
      clear hK K
      have HO := Lib.hid hown
      have HG := Lib.hid hgr
      have HGO := Lib.hid hgo
      clear hown hgr hgo
      try simp only [Act.put, List.getElem_toArray, List.getElem_cons_succ, List.getElem_cons_zero, List.setIfInBounds_toArray, List.set_cons_zero, List.set_cons_succ]
      refine wpAny_ready (rs := [7]) (by kernel_rfl) (by simp) ?_
      refine AllReady.cons rfl (fun K hK => ?_) AllReady.nil
      go_simp
      refine hK _ _ ?_
      clear hK K
      refine wpAny_done (by kernel_rfl) ?_ _
      go_wp2
      refine bodyPost_ret (results_none rfl _ _ _) rfl ?_
      exact DONE.out _ g c w1 hc1 hf1 HO.out HG.out HGO.out
    · go_simp
      go_wp2_with (go_at_call 62; refine (HN.out _).mono ?_; rintro e w' ⟨rfl, rfl⟩)
      try simp only [Act.put, List.getElem_toArray, List.getElem_cons_succ, List.getElem_cons_zero, List.setIfInBounds_toArray, List.set_cons_zero, List.set_cons_succ]
      refine wpAny_ready (rs := [0, 5]) (by kernel_rfl) (by simp) ?_
      refine AllReady.cons rfl (fun K hK => ?_) (AllReady.cons rfl (fun K hK => ?_) AllReady.nil)
      · go_simp
        refine hK _ _ ?_
        clear hK K
        try simp only [Act.put, List.getElem_toArray, List.getElem_cons_succ, List.getElem_cons_zero, List.setIfInBounds_toArray, List.set_cons_zero, List.set_cons_succ]
        refine wpAny_ready (rs := [5]) (by kernel_rfl) (by simp) ?_
        refine AllReady.cons rfl (fun K hK => ?_) AllReady.nil
        go_simp
        refine hK _ _ ?_
        clear hK K
        try simp only [Act.put, List.getElem_toArray, List.getElem_cons_succ, List.getElem_cons_zero, List.setIfInBounds_toArray, List.set_cons_zero, List.set_cons_succ]
        refine wpAny_ready (rs := [6]) (by kernel_rfl) (by simp) ?_
        refine AllReady.cons rfl (fun K hK => ?_) AllReady.nil
        rw [if_pos (by rfl)]
        refine push_wp u HR.out hlo hBr (by omega) (.tmp 15) (.tmp 20) rfl rfl rfl rfl (fun g c w1 hown hgr hc1 hf1 hgo => hK _ _ ?_)
        clear hK K
        have HO := Lib.hid hown
        have HG := Lib.hid hgr
        have HGO := Lib.hid hgo
        clear hown hgr hgo
        try simp only [Act.put, List.getElem_toArray, List.getElem_cons_succ, List.getElem_cons_zero, List.setIfInBounds_toArray, List.set_cons_zero, List.set_cons_succ]
        refine wpAny_ready (rs := [7]) (by kernel_rfl) (by simp) ?_
        refine AllReady.cons rfl (fun K hK => ?_) AllReady.nil
        go_simp
        refine hK _ _ ?_
        clear hK K
        refine wpAny_done (by kernel_rfl) ?_ _
        go_wp2
        refine bodyPost_ret (results_none rfl _ _ _) rfl ?_
        exact DONE.out _ g c w1 hc1 hf1 HO.out HG.out HGO.out
      · go_simp
        refine hK _ _ ?_
        clear hK K
        try simp only [Act.put, List.getElem_toArray, List.getElem_cons_succ, List.getElem_cons_zero, List.setIfInBounds_toArray, List.set_cons_zero, List.set_cons_succ]
        refine wpAny_ready (rs := [0]) (by kernel_rfl) (by simp) ?_
        refine AllReady.cons rfl (fun K hK => ?_) AllReady.nil
        go_simp
        refine hK _ _ ?_
        clear hK K
        try simp only [Act.put, List.getElem_toArray, List.getElem_cons_succ, List.getElem_cons_zero, List.setIfInBounds_toArray, List.set_cons_zero, List.set_cons_succ]
        refine wpAny_ready (rs := [6]) (by kernel_rfl) (by simp) ?_
        refine AllReady.cons rfl (fun K hK => ?_) AllReady.nil
        rw [if_pos (by rfl)]
        refine push_wp u HR.out hlo hBr (by omega) (.tmp 15) (.tmp 20) rfl rfl rfl rfl (fun g c w1 hown hgr hc1 hf1 hgo => hK _ _ ?_)
        clear hK K
        have HO := Lib.hid hown
        have HG := Lib.hid hgr
        have HGO := Lib.hid hgo
        clear hown hgr hgo
        try simp only [Act.put, List.getElem_toArray, List.getElem_cons_succ, List.getElem_cons_zero, List.setIfInBounds_toArray, List.set_cons_zero, List.set_cons_succ]
        refine wpAny_ready (rs := [7]) (by kernel_rfl) (by simp) ?_
        refine AllReady.cons rfl (fun K hK => ?_) AllReady.nil
        go_simp
        refine hK _ _ ?_
        clear hK K
        refine wpAny_done (by kernel_rfl) ?_ _
        go_wp2
        refine bodyPost_ret (results_none rfl _ _ _) rfl ?_
        exact DONE.out _ g c w1 hc1 hf1 HO.out HG.out HGO.out
end Go.Proofs.Ytcbcmnbfflaicaa

/-
  Package poly's split, whole: it appends the roots of a product of x less some numbers, no two the same, each once. For up to 300000 roots.
-/
namespace Go.Proofs.Ytcbcmnbfflaicaa
open Go.RowKit

theorem pow_bits (e : Nat) (heI : (e : Int) = 1152921504606846975) : e < 2 ^ 60 := by
  have h : (2 : Nat) ^ 60 = 1152921504606846976 := by decide +kernel
  omega

theorem one_less : ∃ pm : Nat, (pm : Int) = 2305843009213693950 ∧ pm < 2305843009213693951 ∧ Fld.to pm + 1 = 0 := ⟨2305843009213693950, rfl, by omega, Pl.to_less⟩
theorem co_one (x : Nat) : Pl.co [x] = Pl.C (Fld.to x) := by rw [Pl.co_cons, Pl.co_nil, Pl.sh_zero, Pl.add_zero]
theorem Pt.len {w : World} {A : Option Addr} {n c d : Nat} {l : List Nat} {s : Pl} (h : Pt w A n c l) (hi : Pl.Is l s) (hs : Pl.Dg s d) : n = d + 1 := h.1.trans (len_of_dg hi.1 (hi.2 ▸ hs))

set_option maxRecDepth 100000 in
set_option maxHeartbeats 8000000 in
theorem split_any (e : Nat) (he0 : 0 < e) (heI : (e : Int) = 1152921504606846975) (Br Bs lo : Nat) (hBr : Br < lo) (hBs : Bs < lo) (hne : Bs ≠ Br) :
    ∀ (j k : Nat), k + j = 2305843009213693951 → ∀ (F : Pl) (d : Nat) (A : Option Addr) (nf cf : Nat) (l : List Nat) (v : Value) (old : List Nat) (w : World), Pl.Spl e F d k → Pt w A nf cf l → Pl.Is l F → d ≤ 300000 → old.length + d ≤ 1000000 → lo ≤ w.heap.size →
      w.cell? ⟨Bs, 0, none⟩ = some (.func (.func 69) #[] #[.pointer (some ⟨Br, 0, none⟩), .pointer (some ⟨Bs, 0, none⟩)]) → RBox w Br lo v old →
      Calls Try.prog 69 #[.slice A nf cf, .int .u64 (k : Int), .pointer (some ⟨Br, 0, none⟩), .pointer (some ⟨Bs, 0, none⟩)] w (Splitted F Br lo v old w) := by
  intro j
  induction j with
  | zero =>
    intro k hk F d A nf cf l v old w hs hp hF hd hold hlo hcs hr
    have hnf : nf = d + 1 := hp.1.trans (len_of_dg hF.1 (hF.2 ▸ hs.dg))
    subst hnf
    match d, hs with
    | 0, hs => exact split_const Br Bs lo k F A cf v old w hs.dg hr
    | 1, hs => exact split_line Br Bs lo k F A cf l v old w hF hp hs.dg hs.one hBr hlo hold hr
    | d + 2, hs =>
      obtain ⟨x, y, h1, h2, h3⟩ := Pl.two_roots hs.full hs.dg (by omega)
      have := Pl.sep_end he0 hs.sep h1 h2 h3
      omega
  | succ j ih =>
    intro k hk F d A nf cf l v old w hs hp hF hd hold hlo hcs hr
    have hnf : nf = d + 1 := hp.1.trans (len_of_dg hF.1 (hF.2 ▸ hs.dg))
    subst hnf
    match d, hs with
    | 0, hs => exact split_const Br Bs lo k F A cf v old w hs.dg hr
    | 1, hs => exact split_line Br Bs lo k F A cf l v old w hF hp hs.dg hs.one hBr hlo hold hr
    | d + 2, hs =>
      have hpw := power_any k e 60 A (d + 2 + 1) cf l w (by omega) (by omega) (pow_bits e heI) (by omega) (fun W => by rw [heI]; exact len_half W) hp hF.1 (by omega) (by omega)
      obtain ⟨nf, hnf⟩ : ∃ nf, nf = d + 2 + 1 := ⟨_, rfl⟩
      rw [← hnf] at hp hpw ⊢
      have z1 : ((nf : Int) == 1) = false := by rw [beq_eq_false_iff_ne]; omega
      have z2 : ((nf : Int) == 2) = false := by rw [beq_eq_false_iff_ne]; omega
      rw [heI] at hpw
      have HPW := Lib.hid hpw
      have HS := Lib.hid hs
      have HP := Lib.hid hp
      have HF := Lib.hid hF
      have HR := Lib.hid hr
      have HIH := Lib.hid ih
      have HNF := Lib.hid hnf
      have HCS := Lib.hid hcs
      have hkl : k < 2305843009213693951 := by omega
      have hk1 : k + 1 + j = 2305843009213693951 := by omega
      have HK := Lib.hid hk1
      clear hpw hs hp hF hr ih hnf hcs hk hk1
      go_enter Try.func69, Try.ntmps69
      go_wp2_with fail
      refine HPW.out.mono ?_
      rintro e1 w1 ⟨⟨x, rfl, g1, n1, c1, L1, R, rfl, k1, k2, k3, k4, k5⟩, hb1⟩
      obtain ⟨pm, hpI, hpl, hpm⟩ := one_less
      have hba : Below w1.heap.size w1 (w1.alloc (.cells #[.int .u64 2305843009213693950] 22)) := (Below.refl _ w1).alloc (Nat.le_refl _) _
      have hrd := rd_one w1 pm
      rw [hpI] at hrd
      have kA := k2.below hba k2.lt
      have hn1 : n1 ≤ nf := k4
      have hadd := add_poly (some ⟨g1, 0, none⟩) (some ⟨w1.heap.size, 0, none⟩) n1 c1 1 1 (L1.take n1) [pm] _ kA.slice.symm rfl (by have := HNF.out; omega) (by omega) k3.1.big (by intro y hy; rw [List.mem_singleton.1 hy]; omega) kA.pt.2.1 hrd
      rw [k2.co, co_one] at hadd
      have hR := k2.po
      have hRl : Pl.Lt R nf := k2.lt_co.mono k4
      have HADD := Lib.hid hadd
      have HK5 := Lib.hid (And.intro hR (And.intro hRl (And.intro k5 hpm)))
      have hb1s := hb1.size
      have hb1a : Below w.heap.size w (w1.alloc (.cells #[.int .u64 2305843009213693950] 22)) := hb1.trans (hba.mono hb1s)
      clear k2 k3 k5 kA hrd hadd hba hR hRl hpm hpI hpl hb1
      go_wp2_with fail
      refine HADD.out.mono ?_
      rintro e2 w2 ⟨hg2, hb2⟩
      obtain ⟨g2, n2, c2, L2, rfl, hl2, ho2, ht2⟩ := hg2.own
      have hb02 : Below w.heap.size w w2 := hb1a.trans (hb2.mono (by simp; omega))
      have hn2 : n2 ≤ nf := ho2.len ht2 (HK5.out.2.1.add ((Pl.Lt.C _).mono (by have := HNF.out; omega)))
      have hp2 := HP.out.below hb02
      have hgc := gcd_poly A (some ⟨g2, 0, none⟩) nf cf n2 c2 l (L2.take n2) w2 hp2.1 ho2.slice.symm (by have := HNF.out; omega) (by have := HNF.out; omega) HF.out.1.1.big ht2.1.big hp2.2.1 ho2.pt.2.1
      rw [ho2.co, HF.out.2] at hgc
      have HGC := Lib.hid hgc
      have hb2s := hb02.size
      clear hg2 ho2 ht2 hgc hp2 hb2 hb1a HADD
      go_wp2_with fail
      refine HGC.out.mono ?_
      rintro e3 w3 ⟨⟨G, ⟨A3, n3, c3, l3, rfl, hp3, hi3, hf3⟩, hG⟩, hb3⟩
      obtain ⟨q, d1, d2, hDM, hdd, hs1, hs2, hq, hfq, hdis⟩ := Pl.Spl.step HK5.out.2.2.2 HS.out HK5.out.1 (HF.out.2 ▸ HK5.out.2.2.1) hG
      have hb03 : Below w.heap.size w w3 := hb02.trans (hb3.mono hb2s)
      have hn3 : n3 = d1 + 1 := hp3.len hi3 hs1.dg
      have hp3f := HP.out.below hb03
      have hdd1 : d1 ≤ d + 2 := by omega
      have hdd2 : d2 ≤ d + 2 := by omega
      have HDD := Lib.hid hdd
      have hn3l : n3 ≤ 1000000 := by omega
      have hdm := divmod_poly A A3 nf cf n3 c3 l l3 w3 hp3f.1 hp3.1 (by have := HNF.out; omega) hn3l HF.out.1.1.big hi3.1.1.big hp3f.2.1 hp3.2.1
      have HDM := Lib.hid hdm
      have K3 := Lib.hid (And.intro hp3 (And.intro hi3 (And.intro hDM (And.intro hs1 (And.intro hs2 (And.intro hq (And.intro hfq hdis)))))))
      have hb3s := hb03.size
      have HG1 := Lib.hid hG.1
      clear hp3 hi3 hDM hs1 hs2 hq hfq hdis hp3f hdm hG hb3 hb02 HGC HK5 hdd hn3
      go_wp2_with fail
      refine HDM.out.mono ?_
      rintro e4 w4 ⟨⟨A4, n4, c4, l4, A5, n5, c5, l5, rfl, hp4, hp5, ht4, ht5, hz4, hnz4, hf4⟩, hb4⟩
      have hG0 : Pl.co l3 ≠ 0 := by rw [K3.out.2.1.2]; exact K3.out.2.2.2.1.dg.ne
      have hDM4 := hnz4 hG0
      rw [K3.out.2.1.2, HF.out.2] at hDM4
      have hq4 := (Pl.DM.uniq HG1.out K3.out.2.2.2.1.dg.ne hDM4 K3.out.2.2.1).1
      have hb04 : Below w.heap.size w w4 := hb03.trans (hb4.mono hb3s)
      have hcs4 := (hb04.cell (p := ⟨Bs, 0, none⟩) (by show Bs < w.heap.size; omega)).trans HCS.out
      have hr4 := HR.out.below hb04
      have hp34 := K3.out.1.below hb4
      have hb4s := hb04.size
      obtain ⟨k1, hk1⟩ : ∃ k1, k1 = k + 1 := ⟨_, rfl⟩
      have hcc : (k : Int) + 1 = (k1 : Int) := by omega
      have hwk : IntKind.u64.wrap (k1 : Int) = (k1 : Int) := by rw [IntKind.wrap_u64]; omega
      have HK1 := Lib.hid hk1
      have hc1 := HIH.out k1 (by rw [hk1]; exact HK.out) G d1 A3 n3 c3 l3 v old w4 (hk1 ▸ K3.out.2.2.2.1) hp34 K3.out.2.1 (by omega) (by omega) (by omega) hcs4 hr4
      have HC1 := Lib.hid hc1
      have K4 := Lib.hid (And.intro hp4 (And.intro ht4 (And.intro hq4 hf4)))
      have HR4 := Lib.hid hr4
      clear hp4 hp5 ht4 ht5 hz4 hnz4 hf4 hG0 hDM4 hq4 hr4 hp34 hc1 hb4 HDM hk1
      go_wp2_with fail
      refine HC1.out.mono ?_
      rintro e5 w5 ⟨⟨r5, rfl⟩, ⟨v5, rs1, hr5, hrf5, hov5⟩, hfx5⟩
      have hle1 := hrf5.len K3.out.2.2.2.1.dg
      have hX : ∀ b, w.heap.size ≤ b → ¬ (b = Br ∨ some b = v.ownBlock) := fun b hb h => by
        rcases h with h | h
        · omega
        · have := (own_ge HR.out.2.2.2 h).2; omega
      have hcs5 := (hfx5.cell (p := ⟨Bs, 0, none⟩) (by show Bs < w4.heap.size; omega) (by
        show ¬ (Bs = Br ∨ some Bs = v.ownBlock)
        rintro (h | h)
        · exact hne h
        · have := (own_ge HR.out.2.2.2 h).1; omega)).trans hcs4
      have hp45 := K4.out.1.fx hfx5 (fun bl off e => hX bl (Nat.le_trans hb3s (K4.out.2.2.2 bl off e)))
      have hi45 : Pl.Is l4 q := ⟨K4.out.2.1, K4.out.2.2.1⟩
      have hs5 := hfx5.size
      have hc2 := HIH.out k1 (by rw [HK1.out]; exact HK.out) q d2 A4 n4 c4 l4 v5 (old ++ rs1) w5 (HK1.out ▸ K3.out.2.2.2.2.1) hp45 hi45 (by omega) (by rw [List.length_append]; have := HDD.out; omega) (by omega) hcs5 hr5
      have HC2 := Lib.hid hc2
      have K5 := Lib.hid (And.intro hr5 (And.intro hrf5 (And.intro hov5 hfx5)))
      clear hr5 hrf5 hov5 hfx5 hp45 hi45 hc2 HC1 hle1 hcs4
      go_wp2_with fail
      refine HC2.out.mono ?_
      rintro e6 w6 ⟨⟨r6, rfl⟩, ⟨v6, rs2, hr6, hrf6, hov6⟩, hfx6⟩
      have K6 := Lib.hid (And.intro hr6 (And.intro hrf6 (And.intro hov6 hfx6)))
      clear hr6 hrf6 hov6 hfx6 HC2 hcs5
      go_wp2
      go_end0
      obtain ⟨hr5, hrf5, hov5, hfx5⟩ := K5.out
      obtain ⟨hr6, hrf6, hov6, hfx6⟩ := K6.out
      obtain ⟨_, _, _, hs1, hs2, hq, hfq, hdis⟩ := K3.out
      have f1 : Fx w.heap.size (fun b => b = Br ∨ some b = v.ownBlock) w w4 := Fx.of_below hb04 (fun b hb _ => hb)
      have f2 := hfx5.mono (m := w.heap.size) (Y := fun b => b = Br ∨ some b = v.ownBlock) (fun b hb hx => ⟨by omega, hx⟩)
      have f3 := hfx6.mono (m := w.heap.size) (Y := fun b => b = Br ∨ some b = v.ownBlock) (fun b hb hx => ⟨by omega, fun h => by
        rcases h with h | h
        · exact hx (.inl h)
        · rcases hov5 b h with h1 | h1
          · exact hx (.inr h1)
          · omega⟩)
      refine ⟨⟨_, rfl⟩, ⟨v6, rs1 ++ rs2, by rw [← List.append_assoc]; exact hr6, Pl.Rof.mul HG1.out hq hfq hrf5 hrf6 hdis, fun b hb => ?_⟩, (f1.trans f2).trans f3⟩
      rcases hov6 b hb with h1 | h1
      · rcases hov5 b h1 with h2 | h2
        · exact .inl h2
        · exact .inr (by omega)
      · exact .inr (by omega)
end Go.Proofs.Ytcbcmnbfflaicaa

/-
  The library's sort of up to twelve numbers of 64 bits, in a block that is all known: the same numbers, none greater than the one behind it.
-/
namespace Go.Proofs.Ytcbcmnbfflaicaa
open Go.RowKit

set_option maxRecDepth 100000 in
theorem less_any (x y : Nat) (w : World) : Calls Try.prog 93 #[.int .u64 (x : Int), .int .u64 (y : Int)] w fun e w' => e = .returned (.bool (decide (x < y))) ∧ w' = w := by
  have hnan : ∀ (z : Nat) (w : World), Calls Try.prog 102 #[.int .u64 (z : Int)] w fun e w' => e = .returned (.bool false) ∧ w' = w := by
    intro z w
    go_enter Try.func102, Try.ntmps102
    go_wp2
    go_ret
    exact ⟨by simp, rfl⟩
  go_enter Try.func93, Try.ntmps93
  go_wp2_with (go_at_call 102; refine (hnan _ _).mono ?_; rintro e w' ⟨rfl, rfl⟩)
  go_ret
  exact ⟨rfl, rfl⟩

/-- None is greater than the one behind it. -/
def Up (l : List Nat) : Prop := l.Pairwise (· ≤ ·)
theorem Up.snoc_split {A' : List Nat} {y : Nat} {B : List Nat} (h : Up (A' ++ [y] ++ B)) : Up (A' ++ (y :: B)) := by rwa [List.append_assoc, List.singleton_append] at h
theorem Up.place {A B : List Nat} {x : Nat} (h : Up (A ++ B)) (h1 : ∀ b ∈ B, x < b) (h2 : A = [] ∨ ∃ A' y, A = A' ++ [y] ∧ y ≤ x) : Up (A ++ x :: B) := by
  unfold Up at h ⊢
  rw [List.pairwise_append] at h ⊢
  refine ⟨h.1, List.pairwise_cons.2 ⟨fun b hb => Nat.le_of_lt (h1 b hb), h.2.1⟩, fun a ha b hb => ?_⟩
  rcases List.mem_cons.1 hb with rfl | hb
  · rcases h2 with rfl | ⟨A', y, rfl, hy⟩
    · cases ha
    · rcases List.mem_append.1 ha with h3 | h3
      · exact Nat.le_trans ((List.pairwise_append.1 h.1).2.2 a h3 y (List.mem_singleton.2 rfl)) hy
      · rw [List.mem_singleton.1 h3]; exact hy
  · exact h.2.2 a ha b hb

/-- A block that is known whole: numbers, and whatever lies behind them. -/
def Ax (w : World) (g : Nat) (L : List Nat) (D : List Value) : Prop := Blk w g 22 (u64s L ++ D).toArray
theorem Ax.cell {w : World} {g : Nat} {L : List Nat} {D : List Value} (h : Ax w g L D) {i : Nat} (hi : i < L.length) : w.cell? ⟨g, i, none⟩ = some (.int .u64 ((L[i]?.getD 0 : Nat) : Int)) := by
  rw [Blk.cell h, List.getElem?_toArray, List.getElem?_append_left (by rw [u64s_len]; exact hi)]; exact u64s_at hi
theorem Ax.frozen {w : World} {g : Nat} {L : List Nat} {D : List Value} (h : Ax w g L D) (i : Nat) : w.frozen? ⟨g, i, none⟩ = false := Blk.frozen h i
theorem Ax.set_ {w : World} {g : Nat} {L : List Nat} {D : List Value} (h : Ax w g L D) {i : Nat} (hi : i < L.length) (v : Nat) : Ax (w.setCell ⟨g, i, none⟩ (.int .u64 (v : Int))) g (L.set i v) D := by
  have h1 := Blk.set_ h i (.int .u64 (v : Int))
  unfold Ax
  rwa [List.setIfInBounds_toArray, List.set_append_left _ _ (by rw [u64s_len]; exact hi), show (u64s L).set i (.int .u64 (v : Int)) = u64s (L.set i v) by unfold u64s; rw [List.map_set]] at h1

theorem get_mid (A : List Nat) (x : Nat) (B : List Nat) : (A ++ x :: B)[A.length]?.getD 0 = x := by rw [List.getElem?_append_right (Nat.le_refl _), Nat.sub_self]; rfl
theorem set_mid (A : List Nat) (x z : Nat) (B : List Nat) : (A ++ x :: B).set A.length z = A ++ z :: B := by rw [List.set_append_right _ _ (Nat.le_refl _), Nat.sub_self]; rfl

set_option maxRecDepth 1000000 in
set_option maxHeartbeats 16000000 in
theorem insertion_any (g n c : Nat) (L0 : List Nat) (D : List Value) (w : World) (hg : Ax w g L0 D) (hn : n = L0.length) (hn0 : 0 < n) (hn9 : n ≤ 1000000) (hb : ∀ x ∈ L0, x < 18446744073709551616) :
    Calls Try.prog 87 #[.slice (some ⟨g, 0, none⟩) n c, .int .i64 0, .int .i64 (n : Int)] w fun e w' => (∃ r, e = .returned r) ∧ (∃ L', Ax w' g L' D ∧ List.Perm L' L0 ∧ Up L') ∧ w.grownBy w' (some g) := by
  have HG := Lib.hid hg
  have HN := Lib.hid hn
  have HB := Lib.hid hb
  clear hg hn hb
  go_enter Try.func87, Try.ntmps87
  go_wp2
  go_loopw [6] (fun vi wr => ∃ (i : Nat) (S C : List Nat), vi = .int .i64 (i : Int) ∧ 0 < i ∧ i ≤ n ∧ S.length = i ∧ Up S ∧ List.Perm (S ++ C) L0 ∧ Ax wr g (S ++ C) D ∧ w.grownBy wr (some g)) (fun vi _ => n - (intOf vi).toNat)
  case atStart =>
    obtain ⟨x, l, rfl⟩ : ∃ x l, L0 = x :: l := by
      cases L0 with
      | nil => have := HN.out; simp at this; omega
      | cons x l => exact ⟨x, l, rfl⟩
    exact ⟨1, [x], l, rfl, by omega, by omega, rfl, List.pairwise_singleton _ _, List.Perm.refl _, HG.out, only_refl _ _⟩
  case round =>
    obtain ⟨i, S, C, rfl, hi0, hin, hSl, hUp, hP, hA, hgr⟩ := hrel
    have K := Lib.hid (And.intro hSl (And.intro hUp (And.intro hP (And.intro hA hgr))))
    clear hSl hUp hP hA hgr
    by_cases hlt : i < n
    · have hltz : (i : Int) < (n : Int) := by omega
      obtain ⟨hSl, hUp, hP, hA, hgr⟩ := K.out
      obtain ⟨x0, C', rfl⟩ : ∃ x l, C = x :: l := by
        cases C with
        | nil => have h1 := hP.length_eq; have h2 := HN.out; rw [List.append_nil] at h1; omega
        | cons x l => exact ⟨x, l, rfl⟩
      clear hSl hUp hP hA hgr
      go_wp2
      go_loopw [7] (fun vj wr2 => ∃ (j : Nat) (A : List Nat) (x : Nat) (B : List Nat), vj = .int .i64 (j : Int) ∧ A.length = j ∧ j + B.length = i ∧ Up (A ++ B) ∧ (∀ b ∈ B, x < b) ∧ List.Perm (A ++ x :: B ++ C') L0 ∧ Ax wr2 g (A ++ x :: (B ++ C')) D ∧ w.grownBy wr2 (some g)) (fun vj _ => (intOf vj).toNat)
      case atStart =>
        obtain ⟨hSl, hUp, hP, hA, hgr⟩ := K.out
        refine ⟨i, S, x0, [], rfl, hSl, rfl, by rw [List.append_nil]; exact hUp, (fun b hb => by cases hb), ?_, ?_, hgr⟩
        · rw [List.append_assoc]; exact hP
        · exact hA
      case round =>
        obtain ⟨j, A, x, B, rfl, hAl, hjB, hUp, hlo, hP, hA, hgr⟩ := hrel
        have out : (A = [] ∨ ∃ A' y, A = A' ++ [y] ∧ y ≤ x) → ∀ q, ∃ (i2 : Nat) (S2 C2 : List Nat), Value.int .i64 ((i : Int) + 1) = .int .i64 (i2 : Int) ∧ 0 < i2 ∧ i2 ≤ n ∧ S2.length = i2 ∧ Up S2 ∧ List.Perm (S2 ++ C2) L0 ∧ Ax (wr.drewN q) g (S2 ++ C2) D ∧ w.grownBy (wr.drewN q) (some g) := fun h q =>
          ⟨i + 1, A ++ x :: B, C', rfl, by omega, by omega, by simp; omega, hUp.place hlo h, hP, by rw [List.append_assoc, List.cons_append]; exact hA, only_drewN hgr q⟩
        have OUT := Lib.hid out
        clear out
        have hcases : A = [] ∨ ∃ A' y, A = A' ++ [y] := by
          rcases List.eq_nil_or_concat A with h | ⟨A', y, h⟩
          · exact .inl h
          · exact .inr ⟨A', y, by rw [h, List.concat_eq_append]⟩
        rcases hcases with rfl | ⟨A', y, rfl⟩
        · obtain rfl : j = 0 := by simpa using hAl.symm
          clear hAl hjB hUp hlo hP hA hgr K
          go_wp2
          go_big_quiet (first | (go_at_call 93; refine Calls.quiet_of_same (less_any _ _ _)))
          go_wp2
          go_roundw
          case rel => exact OUT.out (.inl (by simp)) _
          case measure => simp [intOf]; omega
        · obtain ⟨k, hk⟩ : ∃ k, k = A'.length := ⟨_, rfl⟩
          have hj1 : (j : Int) - 1 = (k : Int) := by rw [hk]; simp at hAl; omega
          have hj0 : (0 : Int) < (j : Int) := by simp at hAl; omega
          have hj0n : 0 < j := by omega
          have hdj : decide (0 < j) = true := decide_eq_true hj0n
          have hjn : (j : Int) < (n : Int) := by omega
          have hk0 : (0 : Int) ≤ (k : Int) := by omega
          have hkn : (k : Int) < (n : Int) := by omega
          have hjk : j = k + 1 := by simp at hAl; omega
          have e1 : A' ++ [y] ++ x :: (B ++ C') = A' ++ y :: (x :: (B ++ C')) := by simp
          have hLL : (A' ++ [y] ++ x :: (B ++ C')).length = L0.length := by have := hP.length_eq; simp at this ⊢; omega
          have ck := hA.cell (i := k) (by simp; omega)
          have cj := hA.cell (i := j) (by simp; omega)
          rw [hAl.symm, get_mid] at cj
          rw [e1, hk, get_mid] at ck
          rw [hAl] at cj
          rw [← hk] at ck
          have fk := hA.frozen k
          have fj := hA.frozen j
          have hwk : IntKind.i64.wrap (k : Int) = (k : Int) := by rw [IntKind.wrap_i64]; omega
          have K2 := Lib.hid (And.intro hAl (And.intro hjB (And.intro hUp (And.intro hlo (And.intro hP (And.intro hA (And.intro hgr (And.intro hk hjk))))))))
          clear hAl hjB hUp hlo hP hA hgr K hk hjk e1 hLL
          by_cases hxy : x < y
          · have hdec : decide (x < y) = true := decide_eq_true hxy
            go_wp2
            go_big_quiet (first | (go_at_call 93; refine Calls.quiet_of_same (less_any _ _ _)))
            go_wp2
            obtain ⟨w3, hw3⟩ : ∃ w3, w3 = wr.drewN nq := ⟨_, rfl⟩
            have ck3 : w3.cell? ⟨g, k, none⟩ = some (.int .u64 (y : Int)) := hw3 ▸ ck
            have cj3 : w3.cell? ⟨g, j, none⟩ = some (.int .u64 (x : Int)) := hw3 ▸ cj
            have fk3 : w3.frozen? ⟨g, k, none⟩ = false := hw3 ▸ fk
            have fj3 : w3.frozen? ⟨g, j, none⟩ = false := hw3 ▸ fj
            rw [← hw3]
            have HW3 := Lib.hid hw3
            clear hw3 ck cj fk fj
            have hne1 : k ≠ j := by omega
            have hne2 : j ≠ k := by omega
            go_region
            all_goals go_wp2
            obtain ⟨hAl, hjB, hUp, hlo, hP, hA, hgr, hk, hjk⟩ := K2.out
            have hA3 : Ax w3 g (A' ++ [y] ++ x :: (B ++ C')) D := HW3.out ▸ hA
            have hA4 := (hA3.set_ (i := j) (by simp; omega) y).set_ (i := k) (by simp; omega) x
            rw [← hAl, set_mid, List.append_assoc, List.singleton_append, hk, set_mid] at hA4
            rw [hAl, ← hk] at hA4
            refine ⟨⟨k, A', x, y :: B, rfl, hk.symm, by rw [List.length_cons]; omega, hUp.snoc_split, ?_, ?_, hA4, ?_⟩, by simp [intOf]; omega⟩
            · intro b hb
              rcases List.mem_cons.1 hb with rfl | hb
              · exact hxy
              · exact hlo b hb
            · refine List.Perm.trans ?_ hP
              simp only [List.append_assoc, List.cons_append]
              exact List.Perm.append_left _ (List.Perm.swap y x _)
            · exact only_drew (only_set (only_set (HW3.out ▸ only_drewN hgr nq) _ _) _ _)
          · have hdec : decide (x < y) = false := decide_eq_false hxy
            have hyx : y ≤ x := by omega
            go_wp2
            go_big_quiet (first | (go_at_call 93; refine Calls.quiet_of_same (less_any _ _ _)))
            go_wp2
            go_roundw
            case rel => exact OUT.out (.inr ⟨A', y, by simp, hyx⟩) _
            case measure => simp [intOf]; omega
    · go_wp2
      go_end0
      obtain ⟨hSl, hUp, hP, hA, hgr⟩ := K.out
      have hC : C = [] := by
        have h1 := hP.length_eq
        have h2 := HN.out
        rw [List.length_append] at h1
        exact List.eq_nil_of_length_eq_zero (by omega)
      subst hC
      rw [List.append_nil] at hA hP
      exact ⟨⟨_, rfl⟩, ⟨S, hA, hP, hUp⟩, hgr⟩

set_option maxRecDepth 1000000 in
set_option maxHeartbeats 4000000 in
theorem pdq_any (g n c : Nat) (li : Int) (L0 : List Nat) (D : List Value) (w : World) (hg : Ax w g L0 D) (hn : n = L0.length) (hn0 : 0 < n) (hn9 : n ≤ 12) (hb : ∀ x ∈ L0, x < 18446744073709551616) :
    Calls Try.prog 81 #[.slice (some ⟨g, 0, none⟩) n c, .int .i64 0, .int .i64 (n : Int), .int .i64 li] w fun e w' => (∃ r, e = .returned r) ∧ (∃ L', Ax w' g L' D ∧ List.Perm L' L0 ∧ Up L') ∧ w.grownBy w' (some g) := by
  have h := insertion_any g n c L0 D w hg hn hn0 (by omega) hb
  have H := Lib.hid h
  clear h hg hn hb
  go_enter Try.func81, Try.ntmps81
  go_wp2
  go_loopw [1, 2, 3, 8, 9, 10, 11, 12, 13, 14, 15, 16, 17, 18] (fun a b _ _ _ _ _ _ _ _ _ _ _ _ wr => a = .int .i64 0 ∧ b = .int .i64 (n : Int) ∧ wr = w) (fun _ _ _ _ _ _ _ _ _ _ _ _ _ _ _ => 0)
  case atStart => exact ⟨rfl, rfl, rfl⟩
  case round =>
    obtain ⟨rfl, rfl, rfl⟩ := hrel
    have hn12 : (n : Int) ≤ 12 := by omega
    go_wp2_with fail
    refine H.out.mono ?_
    rintro e w2 ⟨⟨r, rfl⟩, h2, h3⟩
    have H2 := Lib.hid h2
    clear h2
    go_wp2
    refine bodyPost_ret (results_none rfl _ _ _) rfl ?_
    exact ⟨⟨_, rfl⟩, H2.out, h3⟩

set_option maxRecDepth 1000000 in
set_option maxHeartbeats 4000000 in
theorem bitlen_any (n : Nat) (hn : n ≤ 12) (w : World) : Calls Try.prog 82 #[.int .u64 (n : Int)] w fun e w' => (∃ li, e = .returned (.int .i64 li)) ∧ w = w' := by
  have hc : ∀ k : Int, (∃ m ∈ [0, 1, 2, 3, 4, 5, 6, 7, 8, 9, 10, 11, 12], k = m) → ∀ w, Calls Try.prog 79 #[.int .u64 k] w fun e w' => (∃ li, e = .returned (.int .i64 li)) ∧ w = w' := by
    intro k hk w
    simp only [List.mem_cons, List.not_mem_nil, or_false, exists_eq_or_imp, exists_eq_left] at hk
    rcases hk with rfl | rfl | rfl | rfl | rfl | rfl | rfl | rfl | rfl | rfl | rfl | rfl | rfl <;>
    · go_enter Try.func79, Try.ntmps79
      go_wp2
      go_ret
      exact ⟨⟨_, rfl⟩, rfl⟩
  go_enter Try.func82, Try.ntmps82
  go_wp2_with fail
  refine (hc _ ?_ _).mono ?_
  · simp only [List.mem_cons, List.not_mem_nil, or_false, exists_eq_or_imp, exists_eq_left]; omega
  · rintro e w' ⟨⟨li, rfl⟩, rfl⟩
    go_wp2
    go_ret
    exact ⟨⟨li, rfl⟩, rfl⟩

set_option maxRecDepth 1000000 in
set_option maxHeartbeats 4000000 in
theorem sort_any (g n c : Nat) (L0 : List Nat) (D : List Value) (w : World) (hg : Ax w g L0 D) (hn : n = L0.length) (hn0 : 0 < n) (hn9 : n ≤ 12) (hb : ∀ x ∈ L0, x < 18446744073709551616) :
    Calls Try.prog 72 #[.slice (some ⟨g, 0, none⟩) n c] w fun e w' => (∃ r, e = .returned r) ∧ (∃ L', Ax w' g L' D ∧ List.Perm L' L0 ∧ Up L') ∧ w.grownBy w' (some g) := by
  have h := fun li => pdq_any g n c li L0 D w hg hn hn0 hn9 hb
  have H := Lib.hid h
  clear h hg hn hb
  have hbl := bitlen_any n hn9 w
  have HBL := Lib.hid hbl
  clear hbl
  go_enter Try.func72, Try.ntmps72
  go_wp2_with fail
  refine HBL.out.mono ?_
  rintro e w2 ⟨⟨li, rfl⟩, rfl⟩
  go_wp2_with fail
  refine (H.out li).mono ?_
  rintro e w2 ⟨⟨r, rfl⟩, h2, h3⟩
  have H2 := Lib.hid h2
  clear h2
  go_wp2
  go_end0
  exact ⟨⟨_, rfl⟩, H2.out, h3⟩

set_option maxRecDepth 1000000 in
set_option maxHeartbeats 4000000 in
theorem sort_none (A : Option Addr) (c : Nat) (w : World) : Calls Try.prog 72 #[.slice A 0 c] w fun e w' => (∃ r, e = .returned r) ∧ Below w.heap.size w w' := by
  have hbl := bitlen_any 0 (by omega) w
  rw [Int.natCast_zero] at hbl
  have HBL := Lib.hid hbl
  clear hbl
  have hpd : ∀ li, Calls Try.prog 81 #[.slice A 0 c, .int .i64 0, .int .i64 0, .int .i64 li] w fun e w' => (∃ r, e = .returned r) ∧ w = w' := by
    intro li
    have hin : Calls Try.prog 87 #[.slice A 0 c, .int .i64 0, .int .i64 0] w fun e w' => (∃ r, e = .returned r) ∧ w = w' := by
      go_enter Try.func87, Try.ntmps87
      go_wp2
      go_loopw [6] (fun vi wr => vi = .int .i64 1 ∧ wr = w) (fun _ _ => 0)
      case atStart => exact ⟨rfl, rfl⟩
      case round =>
        obtain ⟨rfl, rfl⟩ := hrel
        go_wp2
        go_end0
        exact ⟨⟨_, rfl⟩, rfl⟩
    have HIN := Lib.hid hin
    clear hin
    go_enter Try.func81, Try.ntmps81
    go_wp2
    go_loopw [1, 2, 3, 8, 9, 10, 11, 12, 13, 14, 15, 16, 17, 18] (fun a b _ _ _ _ _ _ _ _ _ _ _ _ wr => a = .int .i64 0 ∧ b = .int .i64 0 ∧ wr = w) (fun _ _ _ _ _ _ _ _ _ _ _ _ _ _ _ => 0)
    case atStart => exact ⟨rfl, rfl, rfl⟩
    case round =>
      obtain ⟨rfl, rfl, rfl⟩ := hrel
      go_wp2_with fail
      refine HIN.out.mono ?_
      rintro e w2 ⟨⟨r, rfl⟩, rfl⟩
      go_wp2
      refine bodyPost_ret (results_none rfl _ _ _) rfl ?_
      exact ⟨⟨_, rfl⟩, rfl⟩
  have HPD := Lib.hid hpd
  clear hpd
  go_enter Try.func72, Try.ntmps72
  go_wp2_with fail
  refine HBL.out.mono ?_
  rintro e w2 ⟨⟨li, rfl⟩, rfl⟩
  go_wp2_with fail
  refine (HPD.out li).mono ?_
  rintro e w2 ⟨⟨r, rfl⟩, rfl⟩
  go_wp2
  go_end0
  exact ⟨⟨_, rfl⟩, Below.refl _ _⟩
end Go.Proofs.Ytcbcmnbfflaicaa
