/-
  Joined texts: Rnd Dva Dvb Dvc Pwr Rtp Lng Rsp Rsq Srt.
-/
import Derived.Stop.RegionWithIn
import Derived.Deep.RegionHeld3
import Derived.RangeFuncCalls
import Derived.Test.YthnbkbmhlalpaaaJb
import Derived.Laws.ResultCell
import Derived.Laws.BitsAllLaws
import Derived.Laws.AppendOwn
import Derived.BigQuiet

/-
  A region that draws its order of evaluation, inside a round of a range over a function: what holds of it outside of a round holds there, where nothing is deferred. No condition but these.
-/
namespace Go.Proofs.Ythnbkbmhlalpaaa

/-- Only the plain end. -/
def OnlyN (K : Act → World → Prop) : Exit → Act → World → Prop
  | .normal, a, w => K a w
  | _, _, _ => False

theorem OnlyN.of {K : Act → World → Prop} {a : Act} {w : World} (h : K a w) : OnlyN K .normal a w := h

theorem rowsIn_round {n l : Nat} {P : Program} {row : String} {args : Array Value} {w : World} {R : Value → World → Prop} (h : Rows P row args w R) : RowsIn (Fence.wide.inRound l) n P row args w R :=
  fun c cs _ => let ⟨v, w', r, s⟩ := h c cs; ⟨v, w', r, by rw [fenced_inRound]; exact stepsIn_wide.2 s⟩

theorem oper_round {n l : Nat} {P : Program} {o : Oper} {a : Act} {w : World} {K : Act → World → Prop} {Q : Exit → Act → World → Prop} (hd : ∀ c, o.op ≠ .defer c) (h : o.wp P a w K Q) : o.wpIn (Fence.wide.inRound l) n P a w K Q := by
  refine ⟨fun _ _ => trivial, ?_⟩
  rw [Fence.inRound_round, Oper.semAt_some l _ o hd]
  unfold Oper.wp at h
  generalize (execOp a.eval o).run P w = r at *
  cases r with
  | ok x w' =>
    cases x <;> simp only [Oper.upon, Oper.uponIn] at h ⊢
    case value => exact h
    case skip => exact h
    case defer => exact h
    case enter => exact ⟨fun e => Bool.noConfusion e, CallsIn.inRound l (callsIn_wide.2 h)⟩
    case row => exact ⟨fun e => Bool.noConfusion e, rowsIn_round h⟩
  | halt x w' => cases x <;> simp only [Oper.upon, Oper.uponIn] at h ⊢ <;> exact h

theorem any_round {n l : Nat} {P : Program} {md : Region.Mode} {ops : Array Oper} {Q : Exit → Act → World → Prop} (hd : ∀ (i : Nat) (o : Oper), ops[i]? = some o → ∀ c, o.op ≠ .defer c) (hQ : ¬ LetsOut Q) : ∀ (fuel : Nat) (listed : Array Bool) (a : Act) (w : World),
    wpAny P md ops Q fuel listed a w → wpAnyIn (Fence.wide.inRound l) n P md ops Q fuel listed a w
  | 0, _, _, _, h => h
  | fuel + 1, listed, a, w, h => by
    refine ⟨h.1, fun i hi => ?_⟩
    have h1 := h.2 i hi
    unfold wpOp at h1
    unfold wpOpIn
    cases ho : ops[i]? with
    | none => simp only [ho] at h1 ⊢; exact any_round hd hQ fuel _ _ _ h1
    | some o =>
      simp only [ho] at h1 ⊢
      split
      · rename_i hw
        simp only [hw, if_true] at h1
        refine oper_round (hd i o ho) (Oper.wp_mono (fun a w h => any_round hd hQ fuel _ _ _ h) (h1.resolve_right fun h => hQ h.2))
      · rename_i hw
        simp only [hw] at h1
        exact ⟨fun _ _ => trivial, any_round hd hQ fuel _ _ _ h1⟩

def noDefer (ops : Array Oper) : Bool := ops.toList.all fun o => match o.op with | .defer _ => false | _ => true
theorem noDefer_spec {ops : Array Oper} (h : noDefer ops = true) (i : Nat) (o : Oper) (ho : ops[i]? = some o) (c : Call) : o.op ≠ .defer c := fun e => by
  have hm : o ∈ ops.toList := by
    rw [← Array.getElem?_toList] at ho
    exact List.mem_of_getElem? ho
  have := List.all_eq_true.1 h o hm
  rw [e] at this
  cases this

theorem region_round {n l id : Nat} {P : Program} {ops : Array Oper} {Q : Exit → Act → World → Prop} {a : Act} {w : World} (hm : P.follows .mixedOrders = true) (hd : noDefer ops = true) (hQ : ∀ a w, ¬ Q .outgrown a w)
    (h : wpAny P .any ops Q ops.size (Array.replicate ops.size false) a w.drew) : (Code.region id ops true).wpIn (Fence.wide.inRound l) n P Q a w :=
  wpIn_region_any hm (any_round (noDefer_spec hd) (fun ⟨_, _, h⟩ => hQ _ _ h) _ _ _ _ h)
theorem oper_wide {n : Nat} {P : Program} {o : Oper} {a : Act} {w : World} {K : Act → World → Prop} {Q : Exit → Act → World → Prop} (h : o.wp P a w K Q) : o.wpIn Fence.wide n P a w K Q := by
  refine ⟨fun _ _ => trivial, ?_⟩
  rw [show Fence.wide.round = none from rfl, Oper.semAt_none]
  unfold Oper.wp at h
  generalize (execOp a.eval o).run P w = r at *
  cases r with
  | ok x w' =>
    cases x <;> simp only [Oper.upon, Oper.uponIn] at h ⊢
    case value => exact h
    case skip => exact h
    case defer => exact h
    case enter => exact ⟨fun e => Bool.noConfusion e, callsIn_wide.2 h⟩
    case row => exact ⟨fun e => Bool.noConfusion e, fun c cs _ => let ⟨v, w', r, s⟩ := h c cs; ⟨v, w', r, stepsIn_wide.2 s⟩⟩
  | halt x w' => cases x <;> simp only [Oper.upon, Oper.uponIn] at h ⊢ <;> exact h

theorem any_wide {n : Nat} {P : Program} {md : Region.Mode} {ops : Array Oper} {Q : Exit → Act → World → Prop} (hQ : ¬ LetsOut Q) : ∀ (fuel : Nat) (listed : Array Bool) (a : Act) (w : World),
    wpAny P md ops Q fuel listed a w → wpAnyIn Fence.wide n P md ops Q fuel listed a w
  | 0, _, _, _, h => h
  | fuel + 1, listed, a, w, h => by
    refine ⟨h.1, fun i hi => ?_⟩
    have h1 := h.2 i hi
    unfold wpOp at h1
    unfold wpOpIn
    cases ho : ops[i]? with
    | none => simp only [ho] at h1 ⊢; exact any_wide hQ fuel _ _ _ h1
    | some o =>
      simp only [ho] at h1 ⊢
      split
      · rename_i hw
        simp only [hw, if_true] at h1
        refine oper_wide (Oper.wp_mono (fun a w h => any_wide hQ fuel _ _ _ h) (h1.resolve_right fun h => hQ h.2))
      · rename_i hw
        simp only [hw] at h1
        exact ⟨fun _ _ => trivial, any_wide hQ fuel _ _ _ h1⟩

/-- Outside of a round, in a function that holds a range over a function: the plain end alone is asked for. -/
theorem region_wide {n id : Nat} {P : Program} {ops : Array Oper} {Q : Exit → Act → World → Prop} {a : Act} {w : World} (hm : P.follows .mixedOrders = true)
    (h : wpAny P .any ops (OnlyN (Q .normal)) ops.size (Array.replicate ops.size false) a w.drew) : (Code.region id ops true).wpIn Fence.wide n P Q a w :=
  wpIn_mono (wpIn_region_any hm (any_wide (fun ⟨_, _, h⟩ => h) _ _ _ _ h)) fun e a w h => by
    cases e <;> first | exact h | exact h.elim
end Go.Proofs.Ythnbkbmhlalpaaa

/-
  Package poly's divide: quotient and rest are those of a polynomial division, the rest in the dividend's own memory. For trimmed divisors that are not 0, and up to a million numbers.
-/
namespace Go.Proofs.Ythnbkbmhlalpaaa
open Go.RowKit Go.Shelf
attribute [local go_sem] Oper.semAt_some

/-- What divide tells: the quotient in memory of its own, the rest in the dividend's. -/
def Divd (w : World) (ga la ca : Nat) (La b : List Nat) (e : Ending) (w' : World) : Prop :=
  ∃ gq nq Lq La' nr, e = .returned (.tuple #[.slice (some ⟨gq, 0, none⟩) nq nq, .slice (some ⟨ga, 0, none⟩) nr ca]) ∧ w.heap.size ≤ gq ∧ Ar w' gq Lq ∧ Lq.length = nq ∧ Pl.Sm Lq ∧
    Ar w' ga La' ∧ La'.length = La.length ∧ nr ≤ la ∧ Pl.Sm La' ∧ Pl.Tr (La'.take nr) ∧ Pl.DM (Pl.co (La.take la)) (Pl.co b) (Pl.co Lq) (Pl.co (La'.take nr)) ∧ (Pl.Tr (La.take la) → Pl.Tr Lq)

theorem Seen.init {n : Nat} {Q : Nat → Nat → Prop} {pre : List (Pr n)} {x : Pr n} (h : Seen n Q (pre ++ [x])) : Seen n Q pre ∧ x.idx + (pre.length + 1) = n := by
  refine ⟨⟨by have := h.1; simp at this; omega, fun j y hj => h.2 j y (by rw [List.getElem?_append_left (List.getElem?_eq_some_iff.1 hj).1]; exact hj)⟩, (h.2 pre.length x (by rw [List.getElem?_concat_length])).1⟩

theorem run_cell_tmp {fn : Func} {p u : Tmp} (h : fn.results = #[.cell p 23, .tmp u]) (tmps : Array Value) (w : World) (a : Addr) (v : Value) (ha : tmps.getD p undef = .pointer (some a)) (hc : w.cell? a = some v) :
    (results fn tmps).run Try.prog w = .ok (.tuple #[v, tmps.getD u undef]) w := by
  rw [results_cell_tmp h, ha]
  generalize tmps.getD u undef = x
  clear ha
  go_simp

theorem Fx.drew {n : Nat} {X : Nat → Prop} {a w : World} (h : Fx n X a w) : Fx n X a w.drew := ⟨h.os, h.tape, h.output, h.size, h.block⟩
/-- A block is a list of nq numbers. -/
def Lst (g nq : Nat) (W : World) : Prop := ∃ L, Ar W g L ∧ L.length = nq ∧ Pl.Sm L
def Kq (n gq ga nq : Nat) (W W' : World) : Prop := Fx n (fun k => k = ga ∨ k = gq) W W' ∧ (Lst gq nq W → Lst gq nq W')
theorem Kq.trans {n gq ga nq : Nat} {A B C : World} (h : Kq n gq ga nq A B) (k : Kq n gq ga nq B C) : Kq n gq ga nq A C := ⟨h.1.trans k.1, fun x => k.2 (h.2 x)⟩
theorem Kq.put {n gq ga nq : Nat} {w : World} (hn : n ≤ w.heap.size) (hq : gq < w.heap.size) (W : World) (l : Nat) (o o' : Obj) (hl : w.heap.size ≤ l) (h1 : W.heap[l]? = some o) (h2 : o.isCells = false) (h3 : o.isWalk = false) : Kq n gq ga nq W (W.putObj l o') :=
  ⟨Fx.k_b hn W l o o' hl h1 h2 h3, fun ⟨L, a, b, c⟩ => ⟨L, (World.putObj_heap_other (by omega)).trans a, b, c⟩⟩

theorem div_cells {w w5 : World} {v1 v2 v3 v4 : Value} {t4 : TypeId} (hb5 : Below ((((w.alloc (.cells #[v1] 23)).alloc (.cells #[v2] 23)).alloc (.cells #[v3] 23)).alloc (.cells #[v4] t4)).heap.size ((((w.alloc (.cells #[v1] 23)).alloc (.cells #[v2] 23)).alloc (.cells #[v3] 23)).alloc (.cells #[v4] t4)) w5) :
    w5.cell? ⟨w.heap.size, 0, none⟩ = some v1 ∧ w5.cell? ⟨w.heap.size + 1, 0, none⟩ = some v2 ∧ (w5.cell? ⟨w.heap.size + 1 + 1, 0, none⟩ = some v3 ∧ w5.frozen? ⟨w.heap.size + 1 + 1, 0, none⟩ = false) ∧ w5.cell? ⟨w.heap.size + 1 + 1 + 1, 0, none⟩ = some v4 ∧ Below w.heap.size w w5 ∧ w.heap.size + 4 ≤ w5.heap.size := by
  have hA4 := cell_alloc_l (.cells #[v4] t4) (cell_alloc_l (.cells #[v3] 23) (cell_alloc_l (.cells #[v2] 23) (cell_new_l w v1 23).1))
  have hB4 := cell_alloc_l (.cells #[v4] t4) (cell_alloc_l (.cells #[v3] 23) (cell_new_l (w.alloc (.cells #[v1] 23)) v2 23).1)
  have hQ4 := cell_alloc_l (.cells #[v4] t4) (cell_new_l ((w.alloc (.cells #[v1] 23)).alloc (.cells #[v2] 23)) v3 23).1
  have hQf4 := frozen_alloc_l (.cells #[v4] t4) (cell_new_l ((w.alloc (.cells #[v1] 23)).alloc (.cells #[v2] 23)) v3 23).1 (cell_new_l ((w.alloc (.cells #[v1] 23)).alloc (.cells #[v2] 23)) v3 23).2
  have hD4 := (cell_new_l (((w.alloc (.cells #[v1] 23)).alloc (.cells #[v2] 23)).alloc (.cells #[v3] 23)) v4 t4).1
  have hb4 : Below w.heap.size w ((((w.alloc (.cells #[v1] 23)).alloc (.cells #[v2] 23)).alloc (.cells #[v3] 23)).alloc (.cells #[v4] t4)) :=
    ((((Below.refl _ w).alloc (Nat.le_refl _) _).alloc (by simp) _).alloc (by simp; omega) _).alloc (by simp; omega) _
  have hs4 : ((((w.alloc (.cells #[v1] 23)).alloc (.cells #[v2] 23)).alloc (.cells #[v3] 23)).alloc (.cells #[v4] t4)).heap.size = w.heap.size + 4 := by simp
  simp only [World.size_alloc] at hA4 hB4 hQ4 hQf4 hD4
  rw [hs4] at hb5
  refine ⟨(hb5.cell (p := ⟨w.heap.size, 0, none⟩) (by show w.heap.size < w.heap.size + 4; omega)).trans hA4, (hb5.cell (p := ⟨w.heap.size + 1, 0, none⟩) (by show w.heap.size + 1 < w.heap.size + 4; omega)).trans hB4,
    ⟨(hb5.cell (p := ⟨w.heap.size + 1 + 1, 0, none⟩) (by show w.heap.size + 1 + 1 < w.heap.size + 4; omega)).trans hQ4, (hb5.frozen (p := ⟨w.heap.size + 1 + 1, 0, none⟩) (by show w.heap.size + 1 + 1 < w.heap.size + 4; omega)).trans hQf4⟩,
    (hb5.cell (p := ⟨w.heap.size + 1 + 1 + 1, 0, none⟩) (by show w.heap.size + 1 + 1 + 1 < w.heap.size + 4; omega)).trans hD4, hb4.trans (hb5.mono (by omega)), ?_⟩
  have := hb5.size
  omega

theorem div_cells2 {w w5 w8 : World} {B y nq : Nat} {v1 v2 v3 v4 vq : Value} (hA : w5.cell? ⟨B, 0, none⟩ = some v1) (hB : w5.cell? ⟨B + 1, 0, none⟩ = some v2) (hQ : w5.cell? ⟨B + 1 + 1, 0, none⟩ = some v3) (hQf : w5.frozen? ⟨B + 1 + 1, 0, none⟩ = false) (hD : w5.cell? ⟨B + 1 + 1 + 1, 0, none⟩ = some v4)
    (hb : Below B w w5) (hs : B + 4 ≤ w5.heap.size) (hw : w8 = ((((w5.alloc (.cells #[.int .u64 (y : Int)] 22)).alloc (.cells (u64s (List.replicate nq 0)).toArray 22)).setCell ⟨B + 1 + 1, 0, none⟩ vq).alloc (.cells #[vq] 23))) :
    w8.cell? ⟨B, 0, none⟩ = some v1 ∧ w8.cell? ⟨B + 1, 0, none⟩ = some v2 ∧ (w8.cell? ⟨B + 1 + 1, 0, none⟩ = some vq ∧ w8.frozen? ⟨B + 1 + 1, 0, none⟩ = false) ∧ w8.cell? ⟨B + 1 + 1 + 1, 0, none⟩ = some v4 ∧
      w8.cell? ⟨w5.heap.size, 0, none⟩ = some (.int .u64 (y : Int)) ∧ Ar w8 (w5.heap.size + 1) (List.replicate nq 0) ∧ w8.cell? ⟨w5.heap.size + 1 + 1, 0, none⟩ = some vq ∧ Below B w w8 ∧ w8.heap.size = w5.heap.size + 3 := by
  subst hw
  have h5 := (cell_new_l w5 (.int .u64 (y : Int)) 22).1
  have h6 := ar_new (w5.alloc (.cells #[.int .u64 (y : Int)] 22)) (List.replicate nq 0)
  have h7 := (cell_new_l (((w5.alloc (.cells #[.int .u64 (y : Int)] 22)).alloc (.cells (u64s (List.replicate nq 0)).toArray 22)).setCell ⟨B + 1 + 1, 0, none⟩ vq) vq 23).1
  have hq := cell_alloc_l (.cells (u64s (List.replicate nq 0)).toArray 22) (cell_alloc_l (.cells #[.int .u64 (y : Int)] 22) hQ)
  have hqf := frozen_alloc_l (.cells (u64s (List.replicate nq 0)).toArray 22) (cell_alloc_l (.cells #[.int .u64 (y : Int)] 22) hQ) (frozen_alloc_l (.cells #[.int .u64 (y : Int)] 22) hQ hQf)
  have hss : (((w5.alloc (.cells #[.int .u64 (y : Int)] 22)).alloc (.cells (u64s (List.replicate nq 0)).toArray 22)).setCell ⟨B + 1 + 1, 0, none⟩ vq).heap.size = w5.heap.size + 1 + 1 := by simp [World.setCell]
  rw [hss] at h7
  rw [World.size_alloc] at h6
  refine ⟨cell_alloc_l _ ((cell_other _ vq (by omega)).trans (cell_alloc_l _ (cell_alloc_l _ hA))), cell_alloc_l _ ((cell_other _ vq (by omega)).trans (cell_alloc_l _ (cell_alloc_l _ hB))),
    ⟨cell_alloc_l _ (World.cell?_setCell_same' _ _ _ (by rw [hq]; rfl)), frozen_alloc_l _ (World.cell?_setCell_same' _ _ _ (by rw [hq]; rfl)) (by rw [World.frozen?_setCell]; exact hqf)⟩,
    cell_alloc_l _ ((cell_other _ vq (by omega)).trans (cell_alloc_l _ (cell_alloc_l _ hD))), cell_alloc_l _ ((cell_other _ vq (by omega)).trans (cell_alloc_l _ h5)),
    ?_, h7, ?_, by rw [World.size_alloc, hss]⟩
  · refine (Ar.other h6 (by omega)).below (n := w5.heap.size + 1 + 1) ((Below.refl _ _).alloc (by rw [hss]; exact Nat.le_refl _) _) (by omega)
  · exact (((((hb.alloc (by omega) _).alloc (by simp; omega) _).setCell (by show B ≤ B + 1 + 1; omega) _).alloc (by rw [hss]; omega) _))

end Go.Proofs.Ythnbkbmhlalpaaa

/-
  Package poly's divide, as it is used: the dividend in memory of its own, the divisor anywhere else. For trimmed divisors, and up to a million numbers.
-/
namespace Go.Proofs.Ythnbkbmhlalpaaa
open Go.RowKit Go.Shelf
attribute [local go_sem] Oper.semAt_some

/-- The first n numbers of a block that is all known say s. -/
structure Own (w : World) (g n c : Nat) (L : List Nat) (s : Pl) : Prop where
  ar : Ar w g L
  le : n ≤ L.length
  cap : n ≤ c
  sm : Pl.Sm L
  co : Pl.co (L.take n) = s
namespace Own
variable {w w' : World} {g n c : Nat} {L : List Nat} {s : Pl}
theorem lt (h : Own w g n c L s) : g < w.heap.size := h.ar.lt
theorem below {m : Nat} (h : Own w g n c L s) (hb : Below m w w') (hg : g < m) : Own w' g n c L s := ⟨h.ar.below hb hg, h.le, h.cap, h.sm, h.co⟩
theorem grown {k : Nat} (h : Own w g n c L s) (hb : w.grownBy w' (some k)) (hg : g ≠ k) : Own w' g n c L s := ⟨(hb.block g h.lt (fun e => hg (by injection e))).trans h.ar, h.le, h.cap, h.sm, h.co⟩
theorem pt (h : Own w g n c L s) : Pt w (some ⟨g, 0, none⟩) n c (L.take n) := ⟨by rw [List.length_take]; have := h.le; omega, (h.ar.rd h.lt).take n, h.cap, fun e => by cases e⟩
theorem po (h : Own w g n c L s) : Pl.Po s := h.co ▸ Pl.Po.co _
theorem lt_co (h : Own w g n c L s) : Pl.Lt s n := h.co ▸ (Pl.Lt.co _).mono (by rw [List.length_take]; omega)
theorem len (h : Own w g n c L s) (ht : Pl.Tr (L.take n)) {k : Nat} (hs : Pl.Lt s k) : n ≤ k := by
  have h1 := ht.len (h.co.symm ▸ hs)
  rw [List.length_take] at h1
  have := h.le
  omega
theorem zero (h : Own w g n c L s) (ht : Pl.Tr (L.take n)) : n = 0 ↔ s = 0 := by
  have h1 := ht.len_zero
  rw [h.co, List.length_take] at h1
  have := h.le
  rw [← h1]
  omega
theorem slice (h : Own w g n c L s) : (L.take n).length = n := by rw [List.length_take]; have := h.le; omega
end Own
theorem Got.own {lo : Nat} {s : Pl} {e : Ending} {w' : World} (h : Got lo s e w') : ∃ g n c L, e = .returned (.slice (some ⟨g, 0, none⟩) n c) ∧ lo ≤ g ∧ Own w' g n c L s ∧ Pl.Tr (L.take n) := by
  obtain ⟨g, m, c, L, e, h1, h2, h3, h4, h5, h6⟩ := h
  exact ⟨g, m, c, L, e, h1, ⟨h2, h3, by omega, h5, h6.2⟩, h6.1⟩

/-- Two tuples of slices: quotient and rest, in memory of their own. -/
def Divs (w : World) (g n c : Nat) (L : List Nat) (s : Pl) (b : List Nat) (e : Ending) (w' : World) : Prop :=
  ∃ gq nq Lq nr L' Q R, e = .returned (.tuple #[.slice (some ⟨gq, 0, none⟩) nq nq, .slice (some ⟨g, 0, none⟩) nr c]) ∧ w.heap.size ≤ gq ∧ Own w' gq nq nq Lq Q ∧ Own w' g nr c L' R ∧ Pl.Tr (L'.take nr) ∧ L'.length = L.length ∧ nr ≤ n ∧
    Pl.DM s (Pl.co b) Q R ∧ (Pl.Tr (L.take n) → Pl.Tr (Lq.take nq))

/-- What DivMod tells. -/
def DivT (lo : Nat) (a b : List Nat) (e : Ending) (w' : World) : Prop :=
  ∃ A1 n1 c1 l1 A2 n2 c2 l2, e = .returned (.tuple #[.slice A1 n1 c1, .slice A2 n2 c2]) ∧ Pt w' A1 n1 c1 l1 ∧ Pt w' A2 n2 c2 l2 ∧ Pl.Tr l1 ∧ Pl.Tr l2 ∧
    (Pl.co b = 0 → l1 = [] ∧ l2 = []) ∧ (Pl.co b ≠ 0 → Pl.DM (Pl.co a) (Pl.co b) (Pl.co l1) (Pl.co l2)) ∧ ∀ bl off, A1 = some ⟨bl, off, none⟩ → lo ≤ bl

theorem Pt.nil (w : World) : Pt w none 0 0 [] := ⟨rfl, Rd.nil, Nat.le_refl _, fun _ => rfl⟩

end Go.Proofs.Ythnbkbmhlalpaaa

/-
  Package poly's Gcd, in memory of its own; what was there was left as it was. For lists of numbers of 64 bits, up to a million of them.
-/
namespace Go.Proofs.Ythnbkbmhlalpaaa
open Go.RowKit

/-- Divided by its last coefficient, what is left of Euclid's divisions is what divides both. -/
theorem gc_end {A B X : Pl} {l : List Nat} (ht : Pl.Tr l) (hx : Pl.co l = X) (h : ∀ d, Pl.Po d → ((Pl.Dv d X ∧ Pl.Dv d 0) ↔ (Pl.Dv d A ∧ Pl.Dv d B))) : Pl.Gc A B (Pl.C (Fld.iv (Fld.to (lead l))) * X) := by
  subst hx
  rcases Nat.eq_zero_or_pos l.length with h0 | h0
  · rw [List.eq_nil_of_length_eq_zero h0, Pl.co_nil, Pl.mul_zero]
    refine ⟨Pl.Po.zero, fun d hd => ?_, fun n hn => absurd rfl hn.ne⟩
    rw [← h d hd, List.eq_nil_of_length_eq_zero h0, Pl.co_nil]
    exact ⟨fun h => ⟨h, h⟩, fun h => h.1⟩
  · obtain ⟨k, hk⟩ : ∃ k, l.length = k + 1 := ⟨l.length - 1, by omega⟩
    have hne := lead_ne ht h0
    have hdg := ht.dg hk
    refine ⟨(Pl.Po.C _).mul (Pl.Po.co l), fun d hd => ?_, fun n hn => ?_⟩
    · rw [Pl.dv_smul (Fld.iv_ne hne), ← h d hd]
      exact ⟨fun h => ⟨h, Pl.Dv.zero d⟩, fun h => h.1⟩
    · rw [hn.uniq (hdg.smul (Fld.iv_ne hne)), Pl.C_mul_at, Pl.co_at, show l[k]?.getD 0 = lead l by unfold lead; rw [hk, Nat.add_sub_cancel]]
      have := Fld.mul_iv hne
      grind

def GcdAt (w wr : World) (A B : Pl) (ny : Nat) (a b : Value) : Prop :=
  ∃ gx nx cx Lx X gy cy Ly Y, a = .slice (some ⟨gx, 0, none⟩) nx cx ∧ b = .slice (some ⟨gy, 0, none⟩) ny cy ∧ w.heap.size ≤ gx ∧ w.heap.size ≤ gy ∧ gx ≠ gy ∧ Own wr gx nx cx Lx X ∧ Pl.Tr (Lx.take nx) ∧ Own wr gy ny cy Ly Y ∧ Pl.Tr (Ly.take ny) ∧
    nx ≤ 1000000 ∧ (∀ d, Pl.Po d → ((Pl.Dv d X ∧ Pl.Dv d Y) ↔ (Pl.Dv d A ∧ Pl.Dv d B)))

end Go.Proofs.Ythnbkbmhlalpaaa

/-
  Package poly's power: what it tells is x and k, raised to n, up to a multiple of the modulo. For trimmed polynomials of up to a million numbers that are not 0.
-/
namespace Go.Proofs.Ythnbkbmhlalpaaa
open Go.RowKit

namespace Pl
/-- a and b leave the same, divided by m. -/
def Cg (m a b : Pl) : Prop := Dv m (a - b)
theorem Cg.of_dm {m a q r : Pl} (h : DM a m q r) : Cg m a r := ⟨q, h.1, by rw [h.2.2.1, add_sub, mul_comm]⟩
theorem Cg.trans {m a b c : Pl} (h : Cg m a b) (k : Cg m b c) : Cg m a c := by
  have h1 := Dv.add h k
  rwa [show a - b + (b - c) = a - c from ext fun n => by simp only [add_at, sub_at]; grind] at h1
theorem Cg.mul {m a b c d : Pl} (ha : Po a) (hd : Po d) (h : Cg m a b) (k : Cg m c d) : Cg m (a * c) (b * d) := by
  have h1 := Dv.add (Dv.mul k ha) (Dv.mul' h hd)
  rwa [mul_sub, sub_mul, show a * c - a * d + (a * d - b * d) = a * c - b * d from ext fun n => by simp only [add_at, sub_at]; grind] at h1
theorem Cg.refl (m a : Pl) : Cg m a a := ⟨0, Po.zero, by rw [mul_zero]; exact ext fun n => by rw [sub_at, zero_at]; exact Fin.sub_self⟩
theorem Cg.sq {m s R q r : Pl} {e : Nat} (hs : Po s) (hR : Po R) (h : Cg m (pw s e) R) (hd : DM (R * R) m q r) : Cg m (pw s (e + e)) r := by
  rw [pw_add]
  exact (Cg.mul (Po.pw hs e) hR h h).trans (Cg.of_dm hd)
theorem Cg.one {m s R q r : Pl} {e : Nat} (hs : Po s) (hR : Po R) (h : Cg m (pw s e) R) (hd : DM (s * R) m q r) : Cg m (pw s (e + 1)) r := by
  rw [show pw s (e + 1) = s * pw s e from by rw [pw, mul_comm]]
  exact (Cg.mul hs hR (Cg.refl m s) h).trans (Cg.of_dm hd)
end Pl

theorem Made.own {lo K : Nat} {s : Pl} {e : Ending} {w' : World} (h : Made lo K s e w') : ∃ g L, e = .returned (.slice (some ⟨g, 0, none⟩) K K) ∧ lo ≤ g ∧ Own w' g K K L s := by
  obtain ⟨g, L, e, h1, h2, h3, h4, h5⟩ := h
  exact ⟨g, L, e, h1, h2, by omega, Nat.le_refl _, h4, by rw [List.take_of_length_le (by omega)]; exact h5⟩

theorem product_own (A A2 : Option Addr) (la ca lb cb : Nat) (a b : List Nat) (w : World) (hn : la = a.length) (hm : lb = b.length) (hla : la ≤ 1000000) (hlb : lb ≤ 1000000)
    (ha : ∀ y ∈ a, y < 18446744073709551616) (hb : ∀ y ∈ b, y < 18446744073709551616) (hA : Rd w.heap.size w A (u64s a)) (hA2 : Rd w.heap.size w A2 (u64s b)) :
    Calls Try.prog 54 #[.slice A la ca, .slice A2 lb cb] w fun e w' => (∃ g K L, e = .returned (.slice (some ⟨g, 0, none⟩) K K) ∧ w.heap.size ≤ g ∧ K ≤ la + lb ∧ Own w' g K K L (Pl.co a * Pl.co b)) ∧ Below w.heap.size w w' := by
  rcases Nat.eq_zero_or_pos (la + lb) with h0 | h0
  · obtain rfl : la = 0 := by omega
    obtain rfl : lb = 0 := by omega
    rw [List.eq_nil_of_length_eq_zero hn.symm, List.eq_nil_of_length_eq_zero hm.symm, Pl.co_nil, Pl.zero_mul]
    refine (product_nil A A2 ca cb w).mono fun e w' ⟨h1, h2⟩ => ⟨?_, h2⟩
    obtain ⟨g, L, e, h3, h4⟩ := h1.own
    exact ⟨g, 0, L, e, h3, by omega, h4⟩
  · refine (product_any A A2 la ca lb cb (la + lb - 1) a b w hn hm h0 (by omega) hla hlb ha hb hA hA2).mono fun e w' ⟨h1, h2⟩ => ⟨?_, h2⟩
    obtain ⟨g, L, e, h3, h4⟩ := h1.own
    exact ⟨g, _, L, e, h3, by omega, h4⟩

theorem Pt.block {w : World} {A : Option Addr} {n c : Nat} {l : List Nat} (h : Pt w A n c l) (hn : 0 < n) {bl off : Nat} (e : A = some ⟨bl, off, none⟩) : bl < w.heap.size := by
  obtain ⟨b, o, e', h1, _⟩ := h.2.1 (by rw [u64s_len, ← h.1]; exact hn)
  rw [e] at e'
  injection e' with e'
  injection e' with e1
  omega

theorem and_one (e : Nat) (he : e < 18446744073709551616) : bits .and .u64 (e : Int) 1 = ((e % 2 : Nat) : Int) := by
  have h := u64_and_nat e 1 he (by omega)
  rw [Nat.and_one_is_mod] at h
  exact h

/-- What power keeps: a polynomial in memory of its own that is (x + k) raised to e, up to a multiple of the modulo. -/
def PwAt (w wr : World) (S M : Pl) (lm e : Nat) (x : Value) : Prop :=
  ∃ g n c L R, x = .slice (some ⟨g, 0, none⟩) n c ∧ w.heap.size ≤ g ∧ Own wr g n c L R ∧ Pl.Tr (L.take n) ∧ n ≤ lm ∧ Pl.Cg M (Pl.pw S e) R

end Go.Proofs.Ythnbkbmhlalpaaa

/- ROOTS, WITHOUT ANY PROGRAM: what splits a polynomial that has as many roots as its degree, and why it comes to an end. No condition. -/
namespace Go.Proofs.Ythnbkbmhlalpaaa
open Fld (F to)
namespace Pl

/-- y, raised to e, is 1. -/
def Sq (e : Nat) (y : F) : Prop := Fld.up y e = 1
theorem up_one : ∀ e, Fld.up (1 : F) e = 1
  | 0 => rfl
  | e + 1 => by rw [Fld.up_succ, up_one e]; grind
theorem sq_one (e : Nat) : Sq e 1 := up_one e
theorem sq_zero {e : Nat} (he : 0 < e) : ¬ Sq e 0 := by
  obtain ⟨k, rfl⟩ : ∃ k, e = k + 1 := ⟨e - 1, by omega⟩
  intro h
  unfold Sq at h
  rw [Fld.up_succ, Fin.mul_zero] at h
  exact Fld.one_ne h.symm

/-- No two roots are told apart by a number below k. -/
def Sep (e : Nat) (f : Pl) (k : Nat) : Prop := ∀ j, j < k → ∀ x y, val f x = 0 → val f y = 0 → (Sq e (x + to j) ↔ Sq e (y + to j))

theorem sep_end {e k : Nat} {f : Pl} {x y : F} (he : 0 < e) (h : Sep e f k) (hx : val f x = 0) (hy : val f y = 0) (hne : x ≠ y) : k < 2305843009213693951 := by
  refine Nat.lt_of_not_le fun hk => ?_
  have hall : ∀ z : F, Sq e (z + (x - y)) ↔ Sq e z := fun z => by
    have hlt : (z - y).val < k := Nat.lt_of_lt_of_le (z - y).isLt hk
    have h1 := h (z - y).val hlt x y hx hy
    rw [Fld.to_self] at h1
    rwa [show x + (z - y) = z + (x - y) by grind, show y + (z - y) = z by grind] at h1
  have hn : ∀ n : Nat, Sq e (to n * (x - y)) ↔ Sq e 0 := by
    intro n
    induction n with
    | zero => rw [Fld.to_zero, Fin.zero_mul]
    | succ n ih =>
      rw [Fld.to_add, Fld.to_one, show (to n + 1) * (x - y) = to n * (x - y) + (x - y) by grind, hall]
      exact ih
  have hd : x - y ≠ 0 := fun h0 => hne (by grind)
  have h1 := hn (Fld.iv (x - y)).val
  rw [Fld.to_self, show Fld.iv (x - y) * (x - y) = 1 by have := Fld.mul_iv hd; grind] at h1
  exact sq_zero he (h1.1 (sq_one e))

theorem two_roots {f : Pl} {d : Nat} (hf : Full f) (hd : Dg f d) (h2 : 2 ≤ d) : ∃ x y, val f x = 0 ∧ val f y = 0 ∧ x ≠ y := by
  obtain ⟨d', hd', hl⟩ := hf
  have hdd := hd.uniq hd'
  have hnd := rts_nodup f
  match hr : rts f with
  | [] => rw [hr] at hl; simp at hl; omega
  | [_] => rw [hr] at hl; simp at hl; omega
  | a :: b :: l =>
    rw [hr] at hnd
    have ha : a ∈ rts f := by rw [hr]; simp
    have hb : b ∈ rts f := by rw [hr]; simp
    refine ⟨a, b, (mem_rts f a).1 ha, (mem_rts f b).1 hb, ?_⟩
    rintro rfl
    simp at hnd

theorem to_inj' {a b : Nat} (ha : a < 2305843009213693951) (hb : b < 2305843009213693951) (h : to a = to b) : a = b := by
  have h1 := congrArg Fin.val h
  rw [Fld.to_val, Fld.to_val, Nat.mod_eq_of_lt (show a < Fld.P from ha), Nat.mod_eq_of_lt (show b < Fld.P from hb)] at h1
  exact h1
/-- The numbers below P at which f is 0, each once. -/
def Rof (f : Pl) (rs : List Nat) : Prop := Sm rs ∧ rs.Nodup ∧ ∀ x, x < 2305843009213693951 → (x ∈ rs ↔ val f (to x) = 0)
theorem Rof.len {f : Pl} {rs : List Nat} {d : Nat} (h : Rof f rs) (hd : Dg f d) : rs.length ≤ d := by
  have h1 := roots_le d f hd (rs.map to) ?_ ?_
  · rwa [List.length_map] at h1
  · rw [List.Nodup, List.pairwise_map]
    refine List.Pairwise.imp_of_mem ?_ h.2.1
    intro a b ha hb hab e
    refine hab ?_
    exact to_inj' (h.1 a ha) (h.1 b hb) e
  · intro x hx
    obtain ⟨n, hn, rfl⟩ := List.mem_map.1 hx
    exact (h.2.2 n (h.1 n hn)).1 hn
theorem Rof.const {f : Pl} (h : Dg f 0) : Rof f [] := ⟨Sm.nil, List.nodup_nil, fun x _ => ⟨fun h => absurd h List.not_mem_nil, fun hx => by
  have h1 := rts_le h
  have h2 := (mem_rts f (to x)).2 hx
  rw [List.eq_nil_of_length_eq_zero (Nat.le_zero.1 h1)] at h2
  exact absurd h2 List.not_mem_nil⟩⟩
theorem sub_zero_f (a : F) : a = a - 0 := by grind
theorem Rof.line {f : Pl} (h : Lt f 2) (h1 : f 1 = 1) {c : Nat} (h0 : f 0 = to c) : Rof f [Fld.sub 0 c] := by
  have hs := Fld.sub_lt 0 c
  have e : f = lin (0 - to c) := ext fun n => by
    match n with
    | 0 => rw [h0]; show _ = 0 - (0 - to c); grind
    | 1 => rw [h1]; show (1 : F) = 1 - 0; exact sub_zero_f 1
    | n + 2 => rw [h (n + 2) (by omega), Lt.lin _ (n + 2) (by omega)]
  refine ⟨fun x hx => by rw [List.mem_singleton.1 hx]; exact hs, by simp, fun x hx => ?_⟩
  rw [List.mem_singleton, e, val_lin]
  constructor
  · rintro rfl
    rw [Fld.to_subF, Fld.to_zero]; grind
  · intro hv
    exact to_inj' hx hs (by rw [Fld.to_subF, Fld.to_zero]; grind)
theorem Rof.mul {f g h : Pl} {a b : List Nat} (hg : Po g) (hh : Po h) (e : f = g * h) (ha : Rof g a) (hb : Rof h b) (hd : ∀ x, ¬ (val g x = 0 ∧ val h x = 0)) : Rof f (a ++ b) := by
  refine ⟨fun x hx => ?_, List.nodup_append.2 ⟨ha.2.1, hb.2.1, fun x hx y hy hxy => ?_⟩, fun x hx => ?_⟩
  · rcases List.mem_append.1 hx with h1 | h1
    · exact ha.1 x h1
    · exact hb.1 x h1
  · subst hxy
    exact hd (to x) ⟨(ha.2.2 x (ha.1 x hx)).1 hx, (hb.2.2 x (hb.1 x hy)).1 hy⟩
  · rw [List.mem_append, ha.2.2 x hx, hb.2.2 x hx, e, val_mul hg hh, Fld.mul_eq_zero]

/-- A product of x less some numbers, no two the same, of which none below k tells two apart. -/
structure Spl (e : Nat) (f : Pl) (d k : Nat) : Prop where
  dg : Dg f d
  one : f d = 1
  full : Full f
  sep : Sep e f k

theorem to_less : to 2305843009213693950 + 1 = 0 := by
  have h := Fld.to_add 2305843009213693950 1
  rw [show to (2305843009213693950 + 1) = 0 from Fin.ext (by rw [Fld.to_val]; exact Nat.mod_self 2305843009213693951), Fld.to_one] at h
  exact h.symm

theorem Spl.step {e d k : Nat} {f R g : Pl} {m : F} (hm : m + 1 = 0) (h : Spl e f d k) (hR : Po R) (hc : Cg f (pw (lin (0 - to k)) e) R) (hg : Gc f (R + C m) g) :
    ∃ q d1 d2, DM f g q 0 ∧ d1 + d2 = d ∧ Spl e g d1 (k + 1) ∧ Spl e q d2 (k + 1) ∧ Po q ∧ f = g * q ∧ ∀ x, ¬ (val g x = 0 ∧ val q x = 0) := by
  obtain ⟨q, hq, hfq⟩ := hg.left
  have hf := h.dg.po
  have g0 : g ≠ 0 := by rintro rfl; exact h.dg.ne (by rw [hfq, zero_mul])
  have q0 : q ≠ 0 := by rintro rfl; exact h.dg.ne (by rw [hfq, mul_zero])
  obtain ⟨d1, hd1⟩ := hg.1.dg g0
  obtain ⟨d2, hd2⟩ := hq.dg q0
  have hdd : d1 + d2 = d := (hfq ▸ hd1.mul hd2 : Dg f (d1 + d2)).uniq h.dg
  have hg1 : g d1 = 1 := hg.2.2 d1 hd1
  have hq1 : q d2 = 1 := by
    have h1 := top_mul hd1.2 hd2.2
    rw [← hfq, hdd, h.one, hg1] at h1
    grind
  obtain ⟨fg, fq, hdis⟩ := full_parts hg.1 hq hfq h.full
  have hval : ∀ x, val f x = 0 → (val g x = 0 ↔ Sq e (x + to k)) := fun x hx => by
    rw [hg.val hf (hR.add (Po.C _)), val_add hR (Po.C _), val_C]
    have h1 := Dv.val hf hc hx
    rw [val_sub (Po.pw (Po.lin _) e) hR, val_pw (Po.lin _), val_lin, show x - (0 - to k) = x + to k by grind] at h1
    unfold Sq
    constructor
    · rintro ⟨_, h2⟩; grind
    · intro h2; exact ⟨hx, by grind⟩
  have fromg : ∀ x, val g x = 0 → val f x = 0 := fun x hx => Dv.val hg.1 hg.left hx
  have fromq : ∀ x, val q x = 0 → val f x = 0 := fun x hx => by rw [hfq, val_mul hg.1 hq, hx, Fin.mul_zero]
  refine ⟨q, d1, d2, ⟨hq, Po.zero, by rw [add_zero, mul_comm]; exact hfq, fun d hd => Lt.zero d⟩, hdd, ⟨hd1, hg1, fg, fun j hj x y hx hy => ?_⟩, ⟨hd2, hq1, fq, fun j hj x y hx hy => ?_⟩, hq, hfq, hdis⟩
  · rcases Nat.lt_or_ge j k with h1 | h1
    · exact h.sep j h1 x y (fromg x hx) (fromg y hy)
    · obtain rfl : j = k := by omega
      rw [← hval x (fromg x hx), ← hval y (fromg y hy)]
      exact ⟨fun _ => hy, fun _ => hx⟩
  · rcases Nat.lt_or_ge j k with h1 | h1
    · exact h.sep j h1 x y (fromq x hx) (fromq y hy)
    · obtain rfl : j = k := by omega
      rw [← hval x (fromq x hx), ← hval y (fromq y hy)]
      exact ⟨fun h2 => absurd ⟨h2, hx⟩ (hdis x), fun h2 => absurd ⟨h2, hy⟩ (hdis y)⟩

theorem lin_zero : lin (0 - to 0) = X := by
  rw [Fld.to_zero]
  exact ext fun n => by
    unfold lin
    rw [sub_at]
    cases n with
    | zero => rw [C_0]; grind
    | succ n => rw [C_s]; grind

theorem Spl.first {e : Nat} {a R g : Pl} {m : F} (hm : m + 1 = 0) (ha : Po a) (h0 : a ≠ 0) (hR : Po R) (hc : Cg a (pw (lin (0 - to 0)) 2305843009213693951) R) (hg : Gc a (R + sh (C m)) g) : ∃ d, Spl e g d 0 ∧ (∀ x, val g x = 0 ↔ val a x = 0) ∧ Dv g a := by
  have hs : R + sh (C m) = R - X := ext fun n => by
    rw [add_at, sub_at]
    match n with
    | 0 => show R 0 + 0 = R 0 - 0; grind
    | 1 => show R 1 + m = R 1 - 1; grind
    | n + 2 => show R (n + 2) + 0 = R (n + 2) - 0; grind
  rw [hs] at hg
  rw [lin_zero] at hc
  have hxp : Dv g xp := by
    have h1 := Dv.add (Dv.trans hg.left hc) hg.right
    unfold xp
    rwa [show pw X 2305843009213693951 - R + (R - X) = pw X 2305843009213693951 - X from ext fun n => by simp only [add_at, sub_at]; grind] at h1
  have g0 : g ≠ 0 := by
    rintro rfl
    exact h0 hg.left.zero_left
  obtain ⟨d, hd⟩ := hg.1.dg g0
  refine ⟨d, ⟨hd, hg.2.2 d hd, full_of_dv hg.1 hxp, fun j hj => absurd hj (Nat.not_lt_zero j)⟩, fun x => ?_, hg.left⟩
  rw [hg.val ha (hR.sub Po.X)]
  refine ⟨fun h => h.1, fun h => ⟨h, ?_⟩⟩
  have h1 := Dv.val ha hc h
  rw [val_sub (Po.pw Po.X _) hR, val_pw Po.X, val_X, pow_P] at h1
  rw [val_sub hR Po.X, val_X]
  grind
end Pl
end Go.Proofs.Ythnbkbmhlalpaaa

/-
  How many bits a number has: the two powers of package poly, and small numbers.
-/
namespace Go.Proofs.Ythnbkbmhlalpaaa
open Go.RowKit
end Go.Proofs.Ythnbkbmhlalpaaa

/-
  Package poly's split: it appends the roots of a product of x less some numbers, no two the same, each once. For up to 300000 roots.
-/
namespace Go.Proofs.Ythnbkbmhlalpaaa
open Go.RowKit

theorem own_kept {w w' : World} {lo n : Nat} {v : Value} {xs : List Value} (h : w.ownsRow lo 22 1 v n xs) (hb : ∀ k, some k = v.ownBlock → k < w.heap.size → w'.heap[k]? = w.heap[k]?) : w'.ownsRow lo 22 1 v n xs := by
  refine ⟨h.1, ?_⟩
  rcases h.2 with h1 | ⟨g, cap, cur, rfl, h2, h3, h4⟩
  · exact .inl h1
  · refine .inr ⟨g, cap, cur, rfl, h2, ?_, h4⟩
    rw [hb g rfl (Array.getElem?_eq_some_iff.1 h3).1]
    exact h3
theorem own_ge {w : World} {lo n k : Nat} {v : Value} {xs : List Value} (h : w.ownsRow lo 22 1 v n xs) (hk : some k = v.ownBlock) : lo ≤ k ∧ k < w.heap.size := by
  rcases h.2 with ⟨rfl, _⟩ | ⟨g, cap, cur, rfl, h2, h3, _⟩
  · cases hk
  · have : k = g := by simpa [Value.ownBlock] using hk
    subst this
    exact ⟨h2, (Array.getElem?_eq_some_iff.1 h3).1⟩

/-- A variable at Br that holds a list of its own, from block lo on. -/
def RBox (w : World) (Br lo : Nat) (v : Value) (old : List Nat) : Prop :=
  w.cell? ⟨Br, 0, none⟩ = some v ∧ w.frozen? ⟨Br, 0, none⟩ = false ∧ (∃ A c, v = .slice A old.length c) ∧ w.ownsRow lo 22 1 v old.length (u64s old)
theorem RBox.kept {w w' : World} {Br lo : Nat} {v : Value} {old : List Nat} (h : RBox w Br lo v old) (hb : ∀ k, k < w.heap.size → (k = Br ∨ some k = v.ownBlock) → w'.heap[k]? = w.heap[k]?) : RBox w' Br lo v old := by
  have hlt := World.block_lt_of_cell? w _ h.1
  exact ⟨(World.cell?_of_block (a := ⟨Br, 0, none⟩) (hb Br hlt (.inl rfl))).trans h.1, (World.frozen?_of_block (a := ⟨Br, 0, none⟩) (hb Br hlt (.inl rfl))).trans h.2.1, h.2.2.1, own_kept h.2.2.2 fun k hk hl => hb k hl (.inr hk)⟩
theorem RBox.below {w w' : World} {Br lo : Nat} {v : Value} {old : List Nat} (h : RBox w Br lo v old) (hb : Below w.heap.size w w') : RBox w' Br lo v old := h.kept fun k hk _ => hb.block k hk
theorem Pt.fx {w w' : World} {A : Option Addr} {n c : Nat} {l : List Nat} {X : Nat → Prop} (h : Pt w A n c l) (hf : Fx w.heap.size X w w') (hx : ∀ bl off, A = some ⟨bl, off, none⟩ → ¬ X bl) : Pt w' A n c l := by
  refine ⟨h.1, fun hp => ?_, h.2.2⟩
  obtain ⟨b, o, e, h1, h2⟩ := h.2.1 hp
  have := hf.size
  exact ⟨b, o, e, by omega, fun i u hu => (hf.cell (p := ⟨b, o + i, none⟩) h1 (hx b o e)).trans (h2 i u hu)⟩

theorem push_run {w : World} {Br lo : Nat} {v : Value} {old : List Nat} (x : Nat) (h : RBox w Br lo v old) (hlo : lo ≤ w.heap.size) (hBr : Br < lo) (hlen : old.length + 1 ≤ 10000000) :
    ∃ g c w1, (Builtin.append_ #[23, 23] 23 #[v, .slice (some ⟨w.heap.size, 0, none⟩) 1 1]).run Try.prog (w.alloc (.cells #[.int .u64 (x : Int)] 22)).drew = .ok (.slice (some ⟨g, 0, none⟩) (old.length + 1) c) w1 ∧
      w1.ownsRow lo 22 1 (.slice (some ⟨g, 0, none⟩) (old.length + 1) c) (old.length + 1) (u64s (old ++ [x])) ∧ (w.alloc (.cells #[.int .u64 (x : Int)] 22)).grownBy w1 v.ownBlock ∧ w1.cell? ⟨Br, 0, none⟩ = some v ∧ w1.frozen? ⟨Br, 0, none⟩ = false ∧ (some g = v.ownBlock ∨ w.heap.size < g) := by
  obtain ⟨i0, hi, hz0, hz1, hz2⟩ := info_parts info_u64
  have hown : (w.alloc (.cells #[.int .u64 (x : Int)] 22)).ownsRow lo 22 1 v old.length (u64s old) := h.2.2.2.alloc _
  have hnews : ∀ j u, [Value.int .u64 (x : Int)][j]? = some u → (w.alloc (.cells #[.int .u64 (x : Int)] 22)).drew.cell? ((⟨w.heap.size, 0, none⟩ : Addr).add j) = some u := fun j u hu => by
    match j with
    | 0 =>
      injection hu with hu
      subst hu
      exact (cell_new_l w (.int .u64 (x : Int)) 22).1
    | j + 1 => cases hu
  have hsz : (w.alloc (.cells #[.int .u64 (x : Int)] 22)).drew.heap.size = w.heap.size + 1 := by show (w.alloc _).heap.size = _; simp
  obtain ⟨v', w', hr, h2, h3, h4⟩ := run_append_own (P := Try.prog) (w := (w.alloc (.cells #[.int .u64 (x : Int)] 22)).drew) lo 23 23 22 i0 (.int .u64 0) 1 8 Try.underlying23 hi hz0 hz1 hz2 rfl (by decide) v old.length (u64s old) hown
    ⟨w.heap.size, 0, none⟩ 1 1 [.int .u64 (x : Int)] rfl hnews (by simp [Value.oneCell']) (by simp [maxLen]; omega) (by omega) (by omega)
  have h3 := only_of_drew h3
  rcases h2.2 with ⟨rfl, e0⟩ | ⟨g, cap, cur, rfl, h5⟩
  · omega
  · have hlt := World.block_lt_of_cell? w _ h.1
    have hnb : some Br ≠ v.ownBlock := fun e => by have := (own_ge h.2.2.2 e).1; omega
    have hbl := h3.block Br (by simp; exact Nat.lt_succ_of_lt hlt) hnb
    have hgo : some g = v.ownBlock ∨ w.heap.size < g := by
      rcases hown.2 with ⟨rfl, e0⟩ | ⟨g0, cap0, cur0, rfl, b1, b2, b3, b4, b5, b6⟩
      · have hr2 := run_append_nil (P := Try.prog) (w := (w.alloc (.cells #[.int .u64 (x : Int)] 22)).drew) 23 23 22 i0 (.int .u64 0) Try.underlying23 hi hz0 ⟨w.heap.size, 0, none⟩ 1 1 [.int .u64 (x : Int)] (by rw [hz1]; rfl) hnews (by omega) (by omega) (by rw [hz2]; omega)
        rw [hr2, hsz] at hr
        injection hr with hv _
        injection hv with hv _ _
        injection hv with hv
        injection hv with hv
        right; omega
      · by_cases hroom : old.length + 1 ≤ cap0
        · have hr2 := run_append_room (P := Try.prog) (w := (w.alloc (.cells #[.int .u64 (x : Int)] 22)).drew) 23 23 22 i0 Try.underlying23 hi g0 old.length cap0 cur0 b2 ⟨w.heap.size, 0, none⟩ 1 1 [.int .u64 (x : Int)] (by rw [hz1]; rfl) hnews (by simp [Value.oneCell']) hroom (by rw [hz1, b5]; simp; omega)
          rw [hr2] at hr
          injection hr with hv _
          injection hv with hv _ _
          injection hv with hv
          injection hv with hv
          left; rw [hv]; rfl
        · have hr2 := run_append_grow (P := Try.prog) (w := (w.alloc (.cells #[.int .u64 (x : Int)] 22)).drew) 23 23 22 i0 (.int .u64 0) Try.underlying23 hi hz0 ⟨g0, 0, none⟩ old.length cap0 (u64s old) (by rw [hz1]; exact hown.1) (hown.cells (g := g0) rfl) ⟨w.heap.size, 0, none⟩ 1 1 [.int .u64 (x : Int)] (by rw [hz1]; rfl) hnews (by omega) (by omega) (by rw [hz2]; exact growslice_fits (by omega) (by omega))
          rw [hr2, hsz] at hr
          injection hr with hv _
          injection hv with hv _ _
          injection hv with hv
          injection hv with hv
          right; omega
    refine ⟨g, cap, w', hr, by rw [u64s_snoc]; exact h2, h3, (World.cell?_of_block (a := ⟨Br, 0, none⟩) hbl).trans (cell_alloc_l _ h.1), (World.frozen?_of_block (a := ⟨Br, 0, none⟩) hbl).trans (frozen_alloc_l _ h.1 h.2.1), hgo⟩

theorem push_wp {w : World} {Br lo : Nat} {v : Value} {old : List Nat} (x : Nat) (h : RBox w Br lo v old) (hlo : lo ≤ w.heap.size) (hBr : Br < lo) (hlen : old.length + 1 ≤ 10000000) {o : Oper} {a : Act} {K : Act → World → Prop} {Q : Exit → Act → World → Prop} (s y : Operand)
    (ho : o.op = .call { callee := .builtin .append, args := #[s, y], argTypes := #[23, 23] }) (ht : o.type = 23) (hs : a.eval s = v) (hy : a.eval y = .slice (some ⟨w.heap.size, 0, none⟩) 1 1)
    (hk : ∀ g c w1, w1.ownsRow lo 22 1 (.slice (some ⟨g, 0, none⟩) (old.length + 1) c) (old.length + 1) (u64s (old ++ [x])) → (w.alloc (.cells #[.int .u64 (x : Int)] 22)).grownBy w1 v.ownBlock → w1.cell? ⟨Br, 0, none⟩ = some v → w1.frozen? ⟨Br, 0, none⟩ = false → (some g = v.ownBlock ∨ w.heap.size < g) →
      K (a.put o.dst (.slice (some ⟨g, 0, none⟩) (old.length + 1) c)) w1) : o.wp Try.prog a (w.alloc (.cells #[.int .u64 (x : Int)] 22)).drew K Q := by
  obtain ⟨g, c, w1, hr, h1, h2, h3, h4, h5⟩ := push_run x h hlo hBr hlen
  unfold Oper.wp execOp
  simp only [ho, ht, resolve, invoke, builtin, Sem.run_bind, Sem.run_pure, Result.andThen_ok, List.map_toArray, List.map_cons, List.map_nil, hs, hy, hr]
  exact hk g c w1 h1 h2 h3 h4 h5

/-- What split does. -/
def Splitted (F : Pl) (Br lo : Nat) (v : Value) (old : List Nat) (w : World) (e : Ending) (w' : World) : Prop :=
  (∃ r, e = .returned r) ∧ (∃ v' rs, RBox w' Br lo v' (old ++ rs) ∧ Pl.Rof F rs ∧ ∀ k, some k = v'.ownBlock → some k = v.ownBlock ∨ w.heap.size ≤ k) ∧ Fx w.heap.size (fun k => k = Br ∨ some k = v.ownBlock) w w'

theorem len_of_dg {l : List Nat} {d : Nat} (ht : Pl.Tr l) (h : Pl.Dg (Pl.co l) d) : l.length = d + 1 := by
  rcases Nat.eq_zero_or_pos l.length with h0 | h0
  · exact absurd (ht.len_zero.1 h0) h.ne
  · obtain ⟨k, hk⟩ : ∃ k, l.length = k + 1 := ⟨l.length - 1, by omega⟩
    rw [hk, (ht.dg hk).uniq h]

end Go.Proofs.Ythnbkbmhlalpaaa

/-
  Package poly's split, whole: it appends the roots of a product of x less some numbers, no two the same, each once. For up to 300000 roots.
-/
namespace Go.Proofs.Ythnbkbmhlalpaaa
open Go.RowKit

theorem pow_bits (e : Nat) (heI : (e : Int) = 1152921504606846975) : e < 2 ^ 60 := by
  have h : (2 : Nat) ^ 60 = 1152921504606846976 := by decide +kernel
  omega

theorem one_less : ∃ pm : Nat, (pm : Int) = 2305843009213693950 ∧ pm < 2305843009213693951 ∧ Fld.to pm + 1 = 0 := ⟨2305843009213693950, rfl, by omega, Pl.to_less⟩
theorem co_one (x : Nat) : Pl.co [x] = Pl.C (Fld.to x) := by rw [Pl.co_cons, Pl.co_nil, Pl.sh_zero, Pl.add_zero]
theorem Pt.len {w : World} {A : Option Addr} {n c d : Nat} {l : List Nat} {s : Pl} (h : Pt w A n c l) (hi : Pl.Is l s) (hs : Pl.Dg s d) : n = d + 1 := h.1.trans (len_of_dg hi.1 (hi.2 ▸ hs))

end Go.Proofs.Ythnbkbmhlalpaaa

/-
  The library's sort of up to twelve numbers of 64 bits, in a block that is all known: the same numbers, none greater than the one behind it.
-/
namespace Go.Proofs.Ythnbkbmhlalpaaa
open Go.RowKit

/-- None is greater than the one behind it. -/
def Up (l : List Nat) : Prop := l.Pairwise (· ≤ ·)
theorem Up.snoc_split {A' : List Nat} {y : Nat} {B : List Nat} (h : Up (A' ++ [y] ++ B)) : Up (A' ++ (y :: B)) := by rwa [List.append_assoc, List.singleton_append] at h
theorem Up.place {A B : List Nat} {x : Nat} (h : Up (A ++ B)) (h1 : ∀ b ∈ B, x < b) (h2 : A = [] ∨ ∃ A' y, A = A' ++ [y] ∧ y ≤ x) : Up (A ++ x :: B) := by
  unfold Up at h ⊢
  rw [List.pairwise_append] at h ⊢
  refine ⟨h.1, List.pairwise_cons.2 ⟨fun b hb => Nat.le_of_lt (h1 b hb), h.2.1⟩, fun a ha b hb => ?_⟩
  rcases List.mem_cons.1 hb with rfl | hb
  · rcases h2 with rfl | ⟨A', y, rfl, hy⟩
    · cases ha
    · rcases List.mem_append.1 ha with h3 | h3
      · exact Nat.le_trans ((List.pairwise_append.1 h.1).2.2 a h3 y (List.mem_singleton.2 rfl)) hy
      · rw [List.mem_singleton.1 h3]; exact hy
  · exact h.2.2 a ha b hb

/-- A block that is known whole: numbers, and whatever lies behind them. -/
def Ax (w : World) (g : Nat) (L : List Nat) (D : List Value) : Prop := Blk w g 22 (u64s L ++ D).toArray
theorem Ax.cell {w : World} {g : Nat} {L : List Nat} {D : List Value} (h : Ax w g L D) {i : Nat} (hi : i < L.length) : w.cell? ⟨g, i, none⟩ = some (.int .u64 ((L[i]?.getD 0 : Nat) : Int)) := by
  rw [Blk.cell h, List.getElem?_toArray, List.getElem?_append_left (by rw [u64s_len]; exact hi)]; exact u64s_at hi
theorem Ax.frozen {w : World} {g : Nat} {L : List Nat} {D : List Value} (h : Ax w g L D) (i : Nat) : w.frozen? ⟨g, i, none⟩ = false := Blk.frozen h i
theorem Ax.set_ {w : World} {g : Nat} {L : List Nat} {D : List Value} (h : Ax w g L D) {i : Nat} (hi : i < L.length) (v : Nat) : Ax (w.setCell ⟨g, i, none⟩ (.int .u64 (v : Int))) g (L.set i v) D := by
  have h1 := Blk.set_ h i (.int .u64 (v : Int))
  unfold Ax
  rwa [List.setIfInBounds_toArray, List.set_append_left _ _ (by rw [u64s_len]; exact hi), show (u64s L).set i (.int .u64 (v : Int)) = u64s (L.set i v) by unfold u64s; rw [List.map_set]] at h1

theorem get_mid (A : List Nat) (x : Nat) (B : List Nat) : (A ++ x :: B)[A.length]?.getD 0 = x := by rw [List.getElem?_append_right (Nat.le_refl _), Nat.sub_self]; rfl
theorem set_mid (A : List Nat) (x z : Nat) (B : List Nat) : (A ++ x :: B).set A.length z = A ++ z :: B := by rw [List.set_append_right _ _ (Nat.le_refl _), Nat.sub_self]; rfl

end Go.Proofs.Ythnbkbmhlalpaaa
