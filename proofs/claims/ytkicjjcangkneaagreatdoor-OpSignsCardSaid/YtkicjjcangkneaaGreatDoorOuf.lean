/-
  An operation of which one thing is another one: the reference's. For operations of few items, with short texts.
-/
import Derived.Test.YtkicjjcangkneaaGreatDoorRft
import Derived.Test.YtkicjjcangkneaaGreatDoorOrk
import Derived.Deep.DeepCutAuto
import Derived.Deep.CutBlock
namespace Go.Proofs.YtkicjjcangkneaaGreatDoor
open Go.RowKit
set_option linter.unusedSimpArgs false
attribute [local go_sem ↓] Go.wp_at_zero Go.wp_at_succ
set_option maxRecDepth 100000
namespace Ot
/-- At most m items in each list (but Refs). -/
def Roomy (m : Nat) (o : LOp) : Prop := o.past.l.length ≤ m ∧ o.path.l.length ≤ m ∧ o.guards.l.length ≤ m ∧ o.boxes.l.length ≤ m ∧ o.hist.l.length ≤ m
theorem Roomy.up {m : Nat} {o : LOp} (h : Roomy m o) : Roomy (m + 1) o := ⟨Nat.le_succ_of_le h.1, Nat.le_succ_of_le h.2.1, Nat.le_succ_of_le h.2.2.1, Nat.le_succ_of_le h.2.2.2.1, Nat.le_succ_of_le h.2.2.2.2⟩
/-- The function's own three blocks. -/
def Own3 (V k : Nat) : Prop := V ≤ k ∧ k < V + 3
/-- The operation, the answer and a name, in blocks of the function's own. -/
structure Bn (V : Nat) (w W : World) (o : LOp) (id : Pk.Nm) : Prop where
  vr : Vr W V o
  res : Vr W (V + 1) LOp.zero
  idb : Blk W (V + 1 + 1) 27 #[.int .i64 id.a, .int .i64 id.b, .int .u64 (id.c : Int)]
  lies : Lies (fun k => V ≤ k) W o
  bel : Below V w W
  size : V + 3 ≤ W.heap.size
/-- The operation was written. -/
structure Be (V : Nat) (w W : World) (o : LOp) : Prop where
  vr : Vr W V o
  res : Vr W (V + 1) LOp.zero
  lies : Lies (Own3 V) W o
  bel : Below V w W
  size : V + 3 ≤ W.heap.size
theorem Bn.below {V : Nat} {w W W' : World} {o : LOp} {id : Pk.Nm} (h : Bn V w W o id) (hb : Below (V + 3) W W') : Bn V w W' o id :=
  ⟨h.vr.below hb (by omega), h.res.below hb (by omega), h.idb.below hb (by omega), h.lies.bf (Bf.belowN hb fun k _ hk => by show V ≤ k; omega), h.bel.trans (hb.mono (by omega)), Nat.le_trans h.size hb.size⟩
theorem Bn.alloc {V : Nat} {w W : World} {o : LOp} {id : Pk.Nm} (h : Bn V w W o id) (b : Obj) : Bn V w (W.alloc b) o id := h.below ((Below.refl _ W).alloc h.size b)
theorem Bn.grown {V : Nat} {w W W' : World} {o : LOp} {id : Pk.Nm} {row : Option Nat} (h : Bn V w W o id) (hg : W.grownBy W' row) (hr : ∀ g, row = some g → V + 3 ≤ g) : Bn V w W' o id := h.below ((Below.refl (V + 3) W).grown hg h.size hr)
theorem Bn.be {V : Nat} {w W : World} {o : LOp} {id : Pk.Nm} (h : Bn V w W o id) : Be V w W o := ⟨h.vr, h.res, h.lies.weak fun _ _ hk => hk.1, h.bel, h.size⟩
/-- A field is written. -/
theorem Bn.put {V : Nat} {w W W' : World} {o o' : LOp} {id : Pk.Nm} (h : Bn V w W o id) (hg : W.grownBy W' (some V)) (hv : Vr W' V o') (hl : Lies (Own3 V) W o') : Be V w W' o' :=
  ⟨hv, blk_grown h.res hg (fun eg => by injection eg with eg; omega), hl.bf (Bf.grown hg fun g eg => by injection eg with eg; subst eg; exact ⟨Nat.le_refl _, by omega⟩), h.bel.grown hg (by have := h.size; omega) (fun g eg => by injection eg with eg; omega), Nat.le_trans h.size hg.size⟩
theorem Bn.fld {V : Nat} {w W : World} {o : LOp} {id : Pk.Nm} (h : Bn V w W o id) (j : Nat) (u : Value) (o' : LOp) (e : o.cells.setIfInBounds j u = o'.cells) (hl : Lies (Own3 V) W o') : Be V w (W.setCell ⟨V, j, none⟩ u) o' :=
  h.put (only_set (only_refl W (some V)) j u) (Vr.set h.vr j u o' e) hl
theorem Be.fin {V : Nat} {w W : World} {o : LOp} (h : Be V w W o) (hV : V = w.heap.size) : Lies No (W.setRow (V + 1) o.cells) o ∧ Below w.heap.size w (W.setRow (V + 1) o.cells) := by
  subst hV
  refine ⟨(h.lies.bf (Bf.setRow W (V := w.heap.size + 1) (cs := o.cells) (show Own3 _ _ from ⟨by omega, by omega⟩))).no, ?_⟩
  exact h.bel.grown (grown_setRow W _ o.cells) (by have := h.size; omega) fun g eg => by injection eg with eg; omega
theorem made_cells {α : Type} (K : Kd α) (z0 : α) (z : Array Value) (hz : z.toList = K.enc z0) (hk : 0 < K.k) (n : Nat) : (madeCells z (n * K.k)).toList = K.cells (List.replicate n z0) := by
  have hzs : z.size = K.k := by rw [← Array.length_toList, hz, K.len]
  apply List.ext_getElem?
  intro i
  by_cases hi : i < n * K.k
  · have hd : i / K.k < n := Nat.div_lt_of_lt_mul (by rw [Nat.mul_comm]; exact hi)
    have hm : i % K.k < K.k := Nat.mod_lt _ hk
    have h1 : (K.enc z0)[i % K.k]? = some (z[i % K.k]!) := by
      rw [← hz, Array.getElem?_toList, Array.getElem?_eq_getElem (by omega)]
      simp [hzs, hm]
    have h2 := K.cells_at (List.replicate n z0) (i / K.k) z0 (i % K.k) _ (by simp [hd]) h1
    rw [Nat.div_add_mod'] at h2
    rw [h2]
    simp [madeCells, hi, hzs]
  · rw [List.getElem?_eq_none (by rw [Array.length_toList, size_madeCells]; omega), List.getElem?_eq_none (by rw [K.cells_len, List.length_replicate]; omega)]
theorem wpList_makeK {α : Type} {K : Kd α} {P : Program} {T : Nat} {z : Value} {bytes : Nat} (z0 : α) (under : P.underlying T = some (.slice K.ty)) (hi : (P.info? K.ty).map (fun i => (i.zero, i.size, i.bytes)) = some (some z, K.k, bytes)) (hz : z.cells.toList = K.enc z0) (hk : 0 < K.k) (hb : bytes ≤ 100)
    {ops : Array Oper} {rest : List Oper} {o : Oper} {a : Act} {Q : Exit → Act → World → Prop} {w : World} (hgd : o.guard = none) (l c : Operand) (hop : o.op = .makeSlice T l c) (B n : Nat) (hl : a.eval l = .int .i64 (n : Int)) (hc : a.eval c = .int .i64 (n : Int)) (hn : n ≤ 1000) (hB : B ≤ w.heap.size)
    (h : ∀ w', Gr K B w' ⟨List.replicate n z0, some ⟨w.heap.size, 0, none⟩, n⟩ → w.grownBy w' none → wpList P ops Q rest (a.put o.dst (.slice (some ⟨w.heap.size, 0, none⟩) n n)) w') : wpList P ops Q (o :: rest) a w := by
  obtain ⟨i0, h0, h1, h2, h3⟩ := info_parts hi
  refine wpList_make_full w hgd l c T hop B K.ty i0 z K.k under h0 h1 h2 .i64 .i64 _ _ n hl hc rfl rfl ?_ (by unfold maxLen; omega) hB fun w' hown hg => h w' ?_ hg
  · rw [h3]
    have : bytes * n ≤ 100 * 1000 := Nat.mul_le_mul hb hn
    omega
  · rw [made_cells K z0 z.cells hz hk n] at hown
    show w'.ownsRow B K.ty K.k (.slice (some ⟨w.heap.size, 0, none⟩) (List.replicate n z0).length n) (List.replicate n z0).length (K.cells (List.replicate n z0))
    rw [List.length_replicate]
    exact hown
theorem lz_newF {α : Type} {K : Kd α} {F : Nat → Prop} (w : World) (l : List α) (cs : Array Value) (n : Nat) (h : cs.toList = K.cells l) (hn : n = l.length) (hF : ¬ F w.heap.size) : Lz K F (w.alloc (.cells cs K.ty)) ⟨l, some ⟨w.heap.size, 0, none⟩, n⟩ := by
  refine ⟨fun _ => ⟨w.heap.size, 0, rfl, by simp, hF, fun i u hu => ?_⟩, Nat.le_of_eq hn.symm, fun h => nomatch h⟩
  have := cell_new w cs K.ty i u (by rw [h]; exact hu)
  rw [Addr.add_lit] at this
  exact this
theorem zero_u8 : (Tryz.prog.info? kU8.ty).map (fun i => (i.zero, i.size, i.bytes)) = some (some (.int .u8 0), kU8.k, 1) := by kernel_rfl
theorem zero_u64 : (Tryz.prog.info? kU64.ty).map (fun i => (i.zero, i.size, i.bytes)) = some (some (.int .u64 0), kU64.k, 8) := by kernel_rfl
theorem zero_bx : (Tryz.prog.info? kBx.ty).map (fun i => (i.zero, i.size, i.bytes)) = some (some (.agg #[.int .u64 0, .int .u64 0, .int .u64 0, .int .u64 0]), kBx.k, 32) := by kernel_rfl
/-- An item in memory. -/
def Src {α : Type} (K : Kd α) (W : World) (g : Nat) (x : α) : Prop := g < W.heap.size ∧ ∀ j u, (K.enc x)[j]? = some u → W.cell? ⟨g, j, none⟩ = some u
theorem Src.bf {α : Type} {K : Kd α} {F : Nat → Prop} {W W' : World} {g : Nat} {x : α} (h : Src K W g x) (hb : Bf F W W') (hf : ¬ F g) : Src K W' g x :=
  ⟨Nat.lt_of_lt_of_le h.1 hb.size, fun j u hu => (hb.cell (p := ⟨g, j, none⟩) h.1 hf).trans (h.2 j u hu)⟩
theorem Src.new {α : Type} (K : Kd α) (W : World) (x : α) (cs : Array Value) (h : cs.toList = K.enc x) : Src K (W.alloc (.cells cs K.ty)) W.heap.size x := by
  refine ⟨by simp, fun j u hu => ?_⟩
  have := cell_new W cs K.ty j u (by rw [h]; exact hu)
  rw [Addr.add_lit] at this
  rw [Nat.zero_add] at this
  exact this
theorem Src.src {α : Type} {K : Kd α} {W : World} {g : Nat} {x : α} (h : Src K W g x) : ∀ j u, (K.cells [x])[j]? = some u → W.cell? ((⟨g, 0, none⟩ : Addr).add j) = some u := fun j u hu => by
  rw [K.cells_one] at hu
  rw [Addr.add_lit, Nat.zero_add]
  exact h.2 j u hu
theorem Gr.ty {α : Type} {K : Kd α} {B : Nat} {w : World} {x : Ls α} (h : Gr K B w x) {g : Nat} (hg : x.v.ownBlock = some g) : ∃ cur, w.heap[g]? = some (.cells cur K.ty (0, 0)) := by
  rcases h.2 with ⟨e, _⟩ | ⟨g', cap, cur, e, _, hcell, _⟩
  · rw [e] at hg; cases hg
  · rw [e] at hg
    injection hg with hg
    exact ⟨cur, hg ▸ hcell⟩
theorem Gr.beside {α β : Type} {K : Kd α} {K' : Kd β} {B B' : Nat} {w w' : World} {x : Ls α} {y : Ls β} (h : Gr K B w x) (h' : Gr K' B' w y) (ht : K.ty ≠ K'.ty) (hg : w.grownBy w' x.v.ownBlock) : Gr K' B' w' y := by
  have hne : y.v.ownBlock = none ∨ y.v.ownBlock ≠ x.v.ownBlock := by
    cases e : y.v.ownBlock with
    | none => exact .inl rfl
    | some g =>
      refine .inr fun e2 => ?_
      obtain ⟨c1, h1⟩ := h.ty e2.symm
      obtain ⟨c2, h2⟩ := h'.ty e
      rw [h1] at h2
      injection h2 with h2
      injection h2 with _ h3
      exact ht h3
  exact World.ownsRow.kept h' hg hne
theorem wp_makeK {α : Type} {K : Kd α} {P : Program} {T : Nat} {z : Value} {bytes : Nat} (z0 : α) (under : P.underlying T = some (.slice K.ty)) (hi : (P.info? K.ty).map (fun i => (i.zero, i.size, i.bytes)) = some (some z, K.k, bytes)) (hz : z.cells.toList = K.enc z0) (hk : 0 < K.k) (hb : bytes ≤ 100)
    {o : Oper} {a : Act} {G : Act → World → Prop} {Q : Exit → Act → World → Prop} {w : World} (l c : Operand) (hop : o.op = .makeSlice T l c) (B n : Nat) (hl : a.eval l = .int .i64 (n : Int)) (hc : a.eval c = .int .i64 (n : Int)) (hn : n ≤ 1000) (hB : B ≤ w.heap.size)
    (h : ∀ w', Gr K B w' ⟨List.replicate n z0, some ⟨w.heap.size, 0, none⟩, n⟩ → w.grownBy w' none → G (a.put o.dst (.slice (some ⟨w.heap.size, 0, none⟩) n n)) w') : Oper.wp P o a w G Q := by
  obtain ⟨i0, h0, h1, h2, h3⟩ := info_parts hi
  obtain ⟨w', hrun, r1, r2⟩ := run_make_full (P := P) w B T K.ty i0 z K.k under h0 h1 h2 .i64 .i64 n (by
    rw [h3]
    have : bytes * n ≤ 100 * 1000 := Nat.mul_le_mul hb hn
    omega) (by unfold maxLen; omega) hB
  unfold Oper.wp
  simp [execOp, hop, hl, hc, hrun, Result.andThen]
  refine h w' ?_ r2
  rw [made_cells K z0 z.cells hz hk n] at r1
  show w'.ownsRow B K.ty K.k (.slice (some ⟨w.heap.size, 0, none⟩) (List.replicate n z0).length n) (List.replicate n z0).length (K.cells (List.replicate n z0))
  rw [List.length_replicate]
  exact r1
theorem gr_empty0 {α : Type} (K : Kd α) {B : Nat} (w : World) (hB : B ≤ w.heap.size) : Gr K B (w.alloc (.cells #[] K.ty)) ⟨[], some ⟨w.heap.size, 0, none⟩, 0⟩ :=
  ⟨by rw [K.cells_len], .inr ⟨w.heap.size, 0, #[], rfl, hB, heap_alloc_new w _, Nat.le_refl _, by unfold maxLen; omega, by simp, by simp [K.cells_nil]⟩⟩

set_option maxHeartbeats 8000000 in
theorem bent_any {w : World} (o : LOp) (hx : Lies No w o) (ht : Tiny o.er) (m : Nat) (hm : m ≤ 18) (hr : Roomy m o) (how n : Int) (hhow : i64 how) (hn : i64 n) :
    Calls Tryz.prog 11 #[o.v, .int .i64 how, .int .i64 n] w fun e w' => ∃ o' : LOp, e = .returned o'.v ∧ Lies No w' o' ∧ Tiny o'.er ∧ Roomy (m + 1) o' ∧ Below w.heap.size w w' := by
  obtain ⟨cs, hcs⟩ : ∃ cs, cs = o.cells := ⟨_, rfl⟩
  obtain ⟨uz, huz⟩ : ∃ u : Nat, (u : Int) = IntKind.u64.wrap n := ⟨(IntKind.u64.wrap n).toNat, Int.toNat_of_nonneg (by rw [IntKind.wrap_u64]; omega)⟩
  have hu : u64 uz := by have := huz; rw [IntKind.wrap_u64] at this; show uz < _; omega
  have hwu : IntKind.u64.wrap n = (uz : Int) := huz.symm
  have HF := Lib.hid (fun W => aro_any n 14 W hn (by omega) (by omega))
  have HS := Lib.hid (fun W => aro_any how 22 W hhow (by omega) (by omega))
  have hf14 := aro_lt n (show 0 < 14 by omega)
  have hs22 := aro_lt how (show 0 < 22 by omega)
  obtain ⟨few, hfew⟩ : ∃ r, r = aro n 14 := ⟨_, rfl⟩
  obtain ⟨sel, hsel⟩ : ∃ r, r = aro how 22 := ⟨_, rfl⟩
  rw [← hfew] at HF hf14
  rw [← hsel] at HS hs22
  have HT := Lib.hid ht
  have HR := Lib.hid hr
  have HN := Lib.hid hn
  have HU := Lib.hid hu
  have HX := Lib.hid hx
  have HCS := Lib.hid hcs
  -- the three blocks
  have e1 : (w.alloc (.cells cs 35)).heap.size = w.heap.size + 1 := by simp
  have e2 : ((w.alloc (.cells cs 35)).alloc (.cells LOp.zero.cells 35)).heap.size = w.heap.size + 1 + 1 := by simp
  have hbn : ∀ id : Pk.Nm, Bn w.heap.size w (((w.alloc (.cells cs 35)).alloc (.cells LOp.zero.cells 35)).alloc (.cells #[.int .i64 id.a, .int .i64 id.b, .int .u64 (id.c : Int)] 27)) o id := by
    intro id
    refine ⟨?_, ?_, ?_, ?_, ?_, ?_⟩
    · rw [hcs]; exact blk_alloc (blk_alloc (Vr.new w o) _) _
    · rw [← e1]; exact blk_alloc (Vr.new _ LOp.zero) _
    · rw [← e2]; exact blk_new _ _ _
    · exact (((hx.weak (F := No) fun k hk hf => by have hf : w.heap.size ≤ k := hf; omega).alloc _).alloc _).alloc _
    · exact (((Below.refl _ w).alloc (Nat.le_refl _) _).alloc (by omega) _).alloc (by omega) _
    · simp
  have HBN := Lib.hid hbn
  show Calls _ _ #[.agg o.cells, _, _] w _
  rw [← hcs]
  clear hx ht hr hn hhow hu huz hfew hsel e1 e2 hbn hcs
  go_enter Tryz.func11, Tryz.ntmps11
  go_upto_if 16 with (fail)
  go_cut [] (fun wx => ∃ id : Pk.Nm, okNm id ∧ Bn w.heap.size w wx o id)
  case first =>
    by_cases hpar : n.tmod 2 = 0
    · have hp : (n.tmod 2 == 0) = true := by rw [beq_iff_eq]; exact hpar
      clear hpar
      go_wp2
      go_meet
      exact ⟨⟨1, n, uz⟩, ⟨⟨by show (-9223372036854775808 : Int) ≤ 1; omega, by show (1 : Int) ≤ 9223372036854775807; omega⟩, HN.out, HU.out⟩, HBN.out ⟨1, n, uz⟩⟩
    · have hp : (n.tmod 2 == 0) = false := by rw [beq_eq_false_iff_ne]; exact hpar
      clear hpar
      go_wp2
      go_meet
      exact ⟨⟨n, 1, 1⟩, ⟨HN.out, ⟨by show (-9223372036854775808 : Int) ≤ 1; omega, by show (1 : Int) ≤ 9223372036854775807; omega⟩, by show 1 < 18446744073709551616; omega⟩, HBN.out ⟨n, 1, 1⟩⟩
  case rest =>
    obtain ⟨id, hid, hb⟩ := hcut
    obtain ⟨w1, rfl⟩ : ∃ w1, w1 = wc := ⟨_, rfl⟩
    have HID := Lib.hid hid
    have HB := Lib.hid hb
    clear hid hb HBN
    go_wp2_with fail
    refine (HF.out _).mono ?_
    rintro e w2 ⟨rfl, rfl⟩
    clear HF
    go_wp2_with fail
    refine (HS.out _).mono ?_
    rintro e w2 ⟨rfl, rfl⟩
    clear HS
    go_upto_block 0 with (fail)
    go_cut [] (fun wx => ∃ o' : LOp, Be w.heap.size w wx o' ∧ Tiny o'.er ∧ Roomy (m + 1) o')
    case first =>
      have hss : sel = 0 ∨ sel = 1 ∨ sel = 2 ∨ sel = 3 ∨ sel = 4 ∨ sel = 5 ∨ sel = 6 ∨ sel = 7 ∨ sel = 8 ∨ sel = 9 ∨ sel = 10 ∨ sel = 11 ∨ sel = 12 ∨ sel = 13 ∨ sel = 14 ∨ sel = 15 ∨ sel = 16 ∨ sel = 17 ∨ sel = 18 ∨ sel = 19 ∨ sel = 20 ∨ sel = 21 := by omega
      rcases hss with rfl | rfl | rfl | rfl | rfl | rfl | rfl | rfl | rfl | rfl | rfl | rfl | rfl | rfl | rfl | rfl | rfl | rfl | rfl | rfl | rfl | rfl
      · as_aux_lemma =>
          have kk := (HB.out.vr.cell 0).trans o.c0
          have kf := HB.out.vr.frozen 0
          go_wp2
          go_meet
          exact ⟨{ o with by_ := n }, HB.out.fld 0 (.int .i64 n) { o with by_ := n } rfl (let hl := HB.out.be.lies; ⟨hl.past, hl.path, hl.pathB, hl.body, hl.refs, hl.guards, hl.boxes, hl.hist, hl.histB⟩), { HT.out with ok := { HT.out.ok with by_ := HN.out } }, HR.out.up⟩
      · as_aux_lemma =>
          have kk := (HB.out.vr.cell 1).trans o.c1
          have kf := HB.out.vr.frozen 1
          go_wp2
          go_meet
          exact ⟨{ o with seq := n }, HB.out.fld 1 (.int .i64 n) { o with seq := n } rfl (let hl := HB.out.be.lies; ⟨hl.past, hl.path, hl.pathB, hl.body, hl.refs, hl.guards, hl.boxes, hl.hist, hl.histB⟩), { HT.out with ok := { HT.out.ok with seq := HN.out } }, HR.out.up⟩
      · as_aux_lemma =>
          have kk := (HB.out.vr.cell 2).trans o.c2
          have kf := HB.out.vr.frozen 2
          go_wp2
          go_meet
          exact ⟨{ o with kind := n }, HB.out.fld 2 (.int .i64 n) { o with kind := n } rfl (let hl := HB.out.be.lies; ⟨hl.past, hl.path, hl.pathB, hl.body, hl.refs, hl.guards, hl.boxes, hl.hist, hl.histB⟩), { HT.out with ok := { HT.out.ok with kind := HN.out } }, HR.out.up⟩
      · as_aux_lemma =>
          have kk := (HB.out.vr.cell 3).trans o.c3
          have kf := HB.out.vr.frozen 3
          go_wp2
          go_meet
          exact ⟨{ o with at_ := n }, HB.out.fld 3 (.int .i64 n) { o with at_ := n } rfl (let hl := HB.out.be.lies; ⟨hl.past, hl.path, hl.pathB, hl.body, hl.refs, hl.guards, hl.boxes, hl.hist, hl.histB⟩), { HT.out with ok := { HT.out.ok with at_ := HN.out } }, HR.out.up⟩
      · as_aux_lemma =>
          have hsz := HB.out.size
          have hro := HR.out.1
          have HBd := Lib.hid (HB.out.below (below_drewN w1 1 (w.heap.size + 3)))
          have HSZ := Lib.hid (show w1.heap.size ≤ w1.drew.heap.size from Nat.le_refl _)
          have hS : w1.drew.cell? ⟨w.heap.size, 4, none⟩ = some (.slice o.past.A o.past.l.length o.past.c) ∧ w1.drew.cell? ⟨w.heap.size + 1 + 1, 0, none⟩ = some (.int .i64 id.a) ∧ w1.drew.cell? ⟨w.heap.size + 1 + 1, 1, none⟩ = some (.int .i64 id.b) ∧ w1.drew.cell? ⟨w.heap.size + 1 + 1, 2, none⟩ = some (.int .u64 (id.c : Int)) := ⟨(HBd.out.vr.cell 4).trans o.c4, HBd.out.idb.cell 0, HBd.out.idb.cell 1, HBd.out.idb.cell 2⟩
          have hwf : IntKind.i64.wrap (200 + (few : Int)) = 200 + (few : Int) := by rw [IntKind.wrap_i64]; omega
          go_wp2
          refine Ord.start (by kernel_rfl) ?_
          try simp only [Act.put, List.getElem_toArray, List.getElem_cons_succ, List.getElem_cons_zero, List.setIfInBounds_toArray, List.set_cons_zero, List.set_cons_succ]
          refine wpAny_take (i := 1) (v := ?_) rfl (by kernel_rfl) (by kernel_rfl) (by kernel_rfl) (fun _ _ _ h => h) (Or.inl ⟨by rfl, ?_⟩) ?_
          rotate_left
          · (intro w; go_simp; try (with_reducible rfl))
          try simp only [Act.put, List.getElem_toArray, List.getElem_cons_succ, List.getElem_cons_zero, List.setIfInBounds_toArray, List.set_cons_zero, List.set_cons_succ]
          refine Ord.load_first [8] (fun w' : World => w'.cell? ⟨w.heap.size, 4, none⟩ = some (.slice o.past.A o.past.l.length o.past.c) ∧ w'.cell? ⟨w.heap.size + 1 + 1, 0, none⟩ = some (.int .i64 id.a) ∧ w'.cell? ⟨w.heap.size + 1 + 1, 1, none⟩ = some (.int .i64 id.b) ∧ w'.cell? ⟨w.heap.size + 1 + 1, 2, none⟩ = some (.int .u64 (id.c : Int))) (i := 2) (v := ?_) rfl (by kernel_rfl) (by kernel_rfl) (by kernel_rfl) (by kernel_rfl) (by kernel_rfl) (fun _ _ _ h => h) (Or.inl ⟨by rfl, ?_⟩) hS ?_
          rotate_left
          · (intro w hSw; (try dsimp only at hSw); obtain ⟨t0, t1, t2, t3⟩ := hSw; go_simp; try (with_reducible rfl))
          try simp only [Act.put, List.getElem_toArray, List.getElem_cons_succ, List.getElem_cons_zero, List.setIfInBounds_toArray, List.set_cons_zero, List.set_cons_succ]
          refine Ord.AnyR.load (i := 4) (v := ?_) rfl (by kernel_rfl) (by kernel_rfl) (by kernel_rfl) (by kernel_rfl) (by kernel_rfl) (fun _ _ _ h => h) (Or.inl ⟨by rfl, ?_⟩) hS ?_
          rotate_left
          · (intro w hSw; (try dsimp only at hSw); obtain ⟨t0, t1, t2, t3⟩ := hSw; go_simp; try (with_reducible rfl))
          try simp only [Act.put, List.getElem_toArray, List.getElem_cons_succ, List.getElem_cons_zero, List.setIfInBounds_toArray, List.set_cons_zero, List.set_cons_succ]
          clear hS
          refine Ord.AnyR.ready2 (i := 0) (j := 5) (by kernel_rfl) rfl rfl (fun K hK => ?_) (fun K hK => ?_)
          · go_simp
            have HB1 := Lib.hid (HBd.out.alloc (.cells #[] 27))
            have HSZ1 := Lib.hid (show w1.heap.size ≤ (w1.drew.alloc (.cells #[] 27)).heap.size from Nat.le_trans HSZ.out (by simp))
            have hE := gr_empty0 kNm (B := w1.heap.size) w1.drew HSZ.out
            rw [show w1.drew.heap.size = w1.heap.size from by first | rfl | simp] at hE
            have HEM1 := Lib.hid (show Gr kNm w1.heap.size (w1.drew.alloc (.cells #[] 27)) ⟨[], some ⟨w1.heap.size, 0, none⟩, 0⟩ from hE)
            clear hE
            have HLE1 := Lib.hid (show w1.heap.size < (w1.drew.alloc (.cells #[] 27)).heap.size from by first | (simp; done) | exact Nat.lt_succ_self _)
            refine hK.out _ _ (fun _ _ => ⟨(HB1.out.vr.cell 4).trans o.c4, HB1.out.idb.cell 0, HB1.out.idb.cell 1, HB1.out.idb.cell 2⟩) ?_
            clear hK K
            try simp only [Act.put, List.getElem_toArray, List.getElem_cons_succ, List.getElem_cons_zero, List.setIfInBounds_toArray, List.set_cons_zero, List.set_cons_succ]
            refine Ord.AnyR.ready2 (i := 3) (j := 5) (by kernel_rfl) rfl rfl (fun K hK => ?_) (fun K hK => ?_)
            · refine step_push_ls ki_nm rfl (.tmp 54) (.tmp 56) rfl w1.heap.size ⟨[], some ⟨w1.heap.size, 0, none⟩, 0⟩ o.past HEM1.out rfl HB1.out.lies.past.no rfl (by show 0 + o.past.l.length ≤ _; omega) HSZ1.out ?_
              intro z2 p2 hz hgz hgw
              have HZ2 := Lib.hid (show z2.l = o.past.l from hz)
              have HGZ2 := Lib.hid hgz
              have HB2 := Lib.hid (HB1.out.grown hgw fun g eg => by have := (HEM1.out.lt g eg).1; omega)
              have HSZ2 := Lib.hid (show w1.heap.size ≤ p2.heap.size from Nat.le_trans HSZ1.out hgw.size)
              clear hz hgz hgw
              refine hK.out _ _ (fun _ _ => ⟨(HB2.out.vr.cell 4).trans o.c4, HB2.out.idb.cell 0, HB2.out.idb.cell 1, HB2.out.idb.cell 2⟩) ?_
              clear hK K
              try simp only [Act.put, List.getElem_toArray, List.getElem_cons_succ, List.getElem_cons_zero, List.setIfInBounds_toArray, List.set_cons_zero, List.set_cons_succ]
              refine Ord.AnyR.ready1 (i := 5) (by kernel_rfl) rfl (fun K hK => ?_)
              go_simp
              have HB3 := Lib.hid (HB2.out.alloc (.cells #[.int .i64 id.a, .int .i64 id.b, .int .u64 (id.c : Int)] 27))
              have HSZ3 := Lib.hid (show w1.heap.size ≤ (p2.alloc (.cells #[.int .i64 id.a, .int .i64 id.b, .int .u64 (id.c : Int)] 27)).heap.size from Nat.le_trans HSZ2.out (by simp))
              have hI := Src.new kNm p2 id #[.int .i64 id.a, .int .i64 id.b, .int .u64 (id.c : Int)] (rfl)
              have HSRC3 := Lib.hid (show Src kNm (p2.alloc (.cells #[.int .i64 id.a, .int .i64 id.b, .int .u64 (id.c : Int)] 27)) (p2.heap.size) id from by have h2 : p2.heap.size = p2.heap.size := (by first | rfl | simp); rw [← h2]; exact hI)
              clear hI
              have HLI3 := Lib.hid (show p2.heap.size < (p2.alloc (.cells #[.int .i64 id.a, .int .i64 id.b, .int .u64 (id.c : Int)] 27)).heap.size from by first | (simp; done) | exact Nat.lt_succ_self _)
              have HGZ3 := Lib.hid (HGZ2.out.below ((Below.refl _ p2).alloc (Nat.le_refl _) (.cells #[.int .i64 id.a, .int .i64 id.b, .int .u64 (id.c : Int)] 27)))
              refine hK.out _ _ (fun _ _ => ⟨(HB3.out.vr.cell 4).trans o.c4, HB3.out.idb.cell 0, HB3.out.idb.cell 1, HB3.out.idb.cell 2⟩) ?_
              clear hK K
              try simp only [Act.put, List.getElem_toArray, List.getElem_cons_succ, List.getElem_cons_zero, List.setIfInBounds_toArray, List.set_cons_zero, List.set_cons_succ]
              refine Ord.AnyR.ready1 (i := 6) (by kernel_rfl) rfl (fun K hK => ?_)
              refine step_push1 ki_nm rfl (.tmp 57) (.tmp 59) rfl w1.heap.size z2 HGZ3.out rfl ⟨p2.heap.size, 0, none⟩ 1 1 [id] rfl rfl (by omega) HSRC3.out.src (by rw [HZ2.out]; simp only [List.length_singleton]; omega) HSZ3.out ?_
              intro z2 w4 hz2 hg2 hgw _
              have HZ2 := Lib.hid (show z2.l = o.past.l ++ [id] by rw [hz2, HZ2.out])
              have HG2 := Lib.hid hg2
              have HB4 := Lib.hid (HB3.out.grown hgw fun g eg => by have := (HGZ3.out.lt g eg).1; omega)
              have kk := (HB4.out.vr.cell 4).trans o.c4
              have kf := HB4.out.vr.frozen 4
              clear hz2 hg2 hgw
              rw [show z2.v = .slice z2.A z2.l.length z2.c from rfl]
              refine hK.out _ _ (fun _ _ => ⟨(HB4.out.vr.cell 4).trans o.c4, HB4.out.idb.cell 0, HB4.out.idb.cell 1, HB4.out.idb.cell 2⟩) ?_
              clear hK K
              try simp only [Act.put, List.getElem_toArray, List.getElem_cons_succ, List.getElem_cons_zero, List.setIfInBounds_toArray, List.set_cons_zero, List.set_cons_succ]
              refine Ord.AnyR.take (i := 7) (v := ?_) rfl (by kernel_rfl) (by kernel_rfl) (by kernel_rfl) (fun _ _ _ h => h) (fun _ _ h => h) (Or.inl ⟨by rfl, ?_⟩) ?_
              rotate_left
              · (intro w; go_simp; try (with_reducible rfl))
              try simp only [Act.put, List.getElem_toArray, List.getElem_cons_succ, List.getElem_cons_zero, List.setIfInBounds_toArray, List.set_cons_zero, List.set_cons_succ]
              refine Ord.AnyR.ready1 (i := 8) (by kernel_rfl) rfl (fun K hK => ?_)
              go_simp
              refine hK.out _ _ (fun h => absurd h (by decide)) ?_
              clear hK K
              try simp only [Act.put, List.getElem_toArray, List.getElem_cons_succ, List.getElem_cons_zero, List.setIfInBounds_toArray, List.set_cons_zero, List.set_cons_succ]
              refine Ord.AnyR.end_ (by kernel_rfl) ?_ _
              go_wp2
              go_meet
              have hz2 := HZ2.out
              have hlz : Lz kNm (Own3 w.heap.size) w4 z2 := HG2.out.lz fun k hk => by have := hk.2; omega
              have hl4 := HB4.out.be.lies
              have h1 : z2.l.length = o.past.l.length + 1 := by rw [hz2, List.length_append]; rfl
              refine ⟨{ o with past := z2 }, HB4.out.fld 4 (.slice z2.A z2.l.length z2.c) { o with past := z2 } rfl ⟨hlz, hl4.path, hl4.pathB, hl4.body, hl4.refs, hl4.guards, hl4.boxes, hl4.hist, hl4.histB⟩, ?_, ⟨by show z2.l.length ≤ m + 1; omega, HR.out.up.2⟩⟩
              refine { HT.out with past := (by show z2.l.length ≤ 20; omega), ok := { HT.out.ok with past := ⟨(by show z2.l.length ≤ 1000; omega), fun y hy => ?_⟩ } }
              have hy : y ∈ z2.l := hy
              rw [hz2] at hy
              rcases List.mem_append.1 hy with h | h
              · exact HT.out.ok.past.2 y h
              · rw [List.mem_singleton.1 h]; exact HID.out
            · go_simp
              have HB4 := Lib.hid (HB1.out.alloc (.cells #[.int .i64 id.a, .int .i64 id.b, .int .u64 (id.c : Int)] 27))
              have HSZ4 := Lib.hid (show w1.heap.size ≤ ((w1.drew.alloc (.cells #[] 27)).alloc (.cells #[.int .i64 id.a, .int .i64 id.b, .int .u64 (id.c : Int)] 27)).heap.size from Nat.le_trans HSZ1.out (by simp))
              have hI := Src.new kNm (w1.drew.alloc (.cells #[] 27)) id #[.int .i64 id.a, .int .i64 id.b, .int .u64 (id.c : Int)] (rfl)
              have HSRC4 := Lib.hid (show Src kNm ((w1.drew.alloc (.cells #[] 27)).alloc (.cells #[.int .i64 id.a, .int .i64 id.b, .int .u64 (id.c : Int)] 27)) ((w1.heap.size + 1)) id from by have h2 : (w1.drew.alloc (.cells #[] 27)).heap.size = (w1.heap.size + 1) := (by first | rfl | simp); rw [← h2]; exact hI)
              clear hI
              have HLI4 := Lib.hid (show (w1.heap.size + 1) < ((w1.drew.alloc (.cells #[] 27)).alloc (.cells #[.int .i64 id.a, .int .i64 id.b, .int .u64 (id.c : Int)] 27)).heap.size from by first | (simp; done) | exact Nat.lt_succ_self _)
              have HEM4 := Lib.hid (HEM1.out.below ((Below.refl _ (w1.drew.alloc (.cells #[] 27))).alloc (Nat.le_refl _) (.cells #[.int .i64 id.a, .int .i64 id.b, .int .u64 (id.c : Int)] 27)))
              have HLE4 := Lib.hid (Nat.lt_of_lt_of_le HLE1.out (show (w1.drew.alloc (.cells #[] 27)).heap.size ≤ ((w1.drew.alloc (.cells #[] 27)).alloc (.cells #[.int .i64 id.a, .int .i64 id.b, .int .u64 (id.c : Int)] 27)).heap.size from by simp))
              have HNE4 := Lib.hid (show ¬ (w1.heap.size + 1) = w1.heap.size from by have h := HLE1.out; have h2 : (w1.drew.alloc (.cells #[] 27)).heap.size = (w1.heap.size + 1) := (by first | rfl | simp); omega)
              refine hK.out _ _ (fun _ _ => ⟨(HB4.out.vr.cell 4).trans o.c4, HB4.out.idb.cell 0, HB4.out.idb.cell 1, HB4.out.idb.cell 2⟩) ?_
              clear hK K
              try simp only [Act.put, List.getElem_toArray, List.getElem_cons_succ, List.getElem_cons_zero, List.setIfInBounds_toArray, List.set_cons_zero, List.set_cons_succ]
              refine Ord.AnyR.ready1 (i := 3) (by kernel_rfl) rfl (fun K hK => ?_)
              refine step_push_ls ki_nm rfl (.tmp 54) (.tmp 56) rfl w1.heap.size ⟨[], some ⟨w1.heap.size, 0, none⟩, 0⟩ o.past HEM4.out rfl HB4.out.lies.past.no rfl (by show 0 + o.past.l.length ≤ _; omega) HSZ4.out ?_
              intro z5 p5 hz hgz hgw
              have HZ5 := Lib.hid (show z5.l = o.past.l from hz)
              have HGZ5 := Lib.hid hgz
              have HB5 := Lib.hid (HB4.out.grown hgw fun g eg => by have := (HEM4.out.lt g eg).1; omega)
              have HSZ5 := Lib.hid (show w1.heap.size ≤ p5.heap.size from Nat.le_trans HSZ4.out hgw.size)
              have HSRC5 := Lib.hid (HSRC4.out.bf (F := fun k => k = w1.heap.size) (Bf.grown hgw fun g eg => by injection eg with eg; exact eg.symm) HNE4.out)
              clear hz hgz hgw
              refine hK.out _ _ (fun _ _ => ⟨(HB5.out.vr.cell 4).trans o.c4, HB5.out.idb.cell 0, HB5.out.idb.cell 1, HB5.out.idb.cell 2⟩) ?_
              clear hK K
              try simp only [Act.put, List.getElem_toArray, List.getElem_cons_succ, List.getElem_cons_zero, List.setIfInBounds_toArray, List.set_cons_zero, List.set_cons_succ]
              refine Ord.AnyR.ready1 (i := 6) (by kernel_rfl) rfl (fun K hK => ?_)
              refine step_push1 ki_nm rfl (.tmp 57) (.tmp 59) rfl w1.heap.size z5 HGZ5.out rfl ⟨(w1.heap.size + 1), 0, none⟩ 1 1 [id] rfl rfl (by omega) HSRC5.out.src (by rw [HZ5.out]; simp only [List.length_singleton]; omega) HSZ5.out ?_
              intro z2 w4 hz2 hg2 hgw _
              have HZ2 := Lib.hid (show z2.l = o.past.l ++ [id] by rw [hz2, HZ5.out])
              have HG2 := Lib.hid hg2
              have HB4 := Lib.hid (HB5.out.grown hgw fun g eg => by have := (HGZ5.out.lt g eg).1; omega)
              have kk := (HB4.out.vr.cell 4).trans o.c4
              have kf := HB4.out.vr.frozen 4
              clear hz2 hg2 hgw
              rw [show z2.v = .slice z2.A z2.l.length z2.c from rfl]
              refine hK.out _ _ (fun _ _ => ⟨(HB4.out.vr.cell 4).trans o.c4, HB4.out.idb.cell 0, HB4.out.idb.cell 1, HB4.out.idb.cell 2⟩) ?_
              clear hK K
              try simp only [Act.put, List.getElem_toArray, List.getElem_cons_succ, List.getElem_cons_zero, List.setIfInBounds_toArray, List.set_cons_zero, List.set_cons_succ]
              refine Ord.AnyR.take (i := 7) (v := ?_) rfl (by kernel_rfl) (by kernel_rfl) (by kernel_rfl) (fun _ _ _ h => h) (fun _ _ h => h) (Or.inl ⟨by rfl, ?_⟩) ?_
              rotate_left
              · (intro w; go_simp; try (with_reducible rfl))
              try simp only [Act.put, List.getElem_toArray, List.getElem_cons_succ, List.getElem_cons_zero, List.setIfInBounds_toArray, List.set_cons_zero, List.set_cons_succ]
              refine Ord.AnyR.ready1 (i := 8) (by kernel_rfl) rfl (fun K hK => ?_)
              go_simp
              refine hK.out _ _ (fun h => absurd h (by decide)) ?_
              clear hK K
              try simp only [Act.put, List.getElem_toArray, List.getElem_cons_succ, List.getElem_cons_zero, List.setIfInBounds_toArray, List.set_cons_zero, List.set_cons_succ]
              refine Ord.AnyR.end_ (by kernel_rfl) ?_ _
              go_wp2
              go_meet
              have hz2 := HZ2.out
              have hlz : Lz kNm (Own3 w.heap.size) w4 z2 := HG2.out.lz fun k hk => by have := hk.2; omega
              have hl4 := HB4.out.be.lies
              have h1 : z2.l.length = o.past.l.length + 1 := by rw [hz2, List.length_append]; rfl
              refine ⟨{ o with past := z2 }, HB4.out.fld 4 (.slice z2.A z2.l.length z2.c) { o with past := z2 } rfl ⟨hlz, hl4.path, hl4.pathB, hl4.body, hl4.refs, hl4.guards, hl4.boxes, hl4.hist, hl4.histB⟩, ?_, ⟨by show z2.l.length ≤ m + 1; omega, HR.out.up.2⟩⟩
              refine { HT.out with past := (by show z2.l.length ≤ 20; omega), ok := { HT.out.ok with past := ⟨(by show z2.l.length ≤ 1000; omega), fun y hy => ?_⟩ } }
              have hy : y ∈ z2.l := hy
              rw [hz2] at hy
              rcases List.mem_append.1 hy with h | h
              · exact HT.out.ok.past.2 y h
              · rw [List.mem_singleton.1 h]; exact HID.out
          · go_simp
            have HB6 := Lib.hid (HBd.out.alloc (.cells #[.int .i64 id.a, .int .i64 id.b, .int .u64 (id.c : Int)] 27))
            have HSZ6 := Lib.hid (show w1.heap.size ≤ (w1.drew.alloc (.cells #[.int .i64 id.a, .int .i64 id.b, .int .u64 (id.c : Int)] 27)).heap.size from Nat.le_trans HSZ.out (by simp))
            have hI := Src.new kNm w1.drew id #[.int .i64 id.a, .int .i64 id.b, .int .u64 (id.c : Int)] (rfl)
            have HSRC6 := Lib.hid (show Src kNm (w1.drew.alloc (.cells #[.int .i64 id.a, .int .i64 id.b, .int .u64 (id.c : Int)] 27)) (w1.heap.size) id from by have h2 : w1.drew.heap.size = w1.heap.size := (by first | rfl | simp); rw [← h2]; exact hI)
            clear hI
            have HLI6 := Lib.hid (show w1.heap.size < (w1.drew.alloc (.cells #[.int .i64 id.a, .int .i64 id.b, .int .u64 (id.c : Int)] 27)).heap.size from by first | (simp; done) | exact Nat.lt_succ_self _)
            refine hK.out _ _ (fun _ _ => ⟨(HB6.out.vr.cell 4).trans o.c4, HB6.out.idb.cell 0, HB6.out.idb.cell 1, HB6.out.idb.cell 2⟩) ?_
            clear hK K
            try simp only [Act.put, List.getElem_toArray, List.getElem_cons_succ, List.getElem_cons_zero, List.setIfInBounds_toArray, List.set_cons_zero, List.set_cons_succ]
            refine Ord.AnyR.ready1 (i := 0) (by kernel_rfl) rfl (fun K hK => ?_)
            go_simp
            have HB7 := Lib.hid (HB6.out.alloc (.cells #[] 27))
            have HSZ7 := Lib.hid (show w1.heap.size ≤ ((w1.drew.alloc (.cells #[.int .i64 id.a, .int .i64 id.b, .int .u64 (id.c : Int)] 27)).alloc (.cells #[] 27)).heap.size from Nat.le_trans HSZ6.out (by simp))
            have hE := gr_empty0 kNm (B := w1.heap.size) (w1.drew.alloc (.cells #[.int .i64 id.a, .int .i64 id.b, .int .u64 (id.c : Int)] 27)) HSZ6.out
            rw [show (w1.drew.alloc (.cells #[.int .i64 id.a, .int .i64 id.b, .int .u64 (id.c : Int)] 27)).heap.size = (w1.heap.size + 1) from by first | rfl | simp] at hE
            have HEM7 := Lib.hid (show Gr kNm w1.heap.size ((w1.drew.alloc (.cells #[.int .i64 id.a, .int .i64 id.b, .int .u64 (id.c : Int)] 27)).alloc (.cells #[] 27)) ⟨[], some ⟨(w1.heap.size + 1), 0, none⟩, 0⟩ from hE)
            clear hE
            have HLE7 := Lib.hid (show (w1.heap.size + 1) < ((w1.drew.alloc (.cells #[.int .i64 id.a, .int .i64 id.b, .int .u64 (id.c : Int)] 27)).alloc (.cells #[] 27)).heap.size from by first | (simp; done) | exact Nat.lt_succ_self _)
            have HSRC7 := Lib.hid (HSRC6.out.bf (F := No) (Bf.alloc (w1.drew.alloc (.cells #[.int .i64 id.a, .int .i64 id.b, .int .u64 (id.c : Int)] 27)) (.cells #[] 27)) fun h => h)
            have HNE7 := Lib.hid (show ¬ w1.heap.size = (w1.heap.size + 1) from by have h := HLI6.out; have h2 : (w1.drew.alloc (.cells #[.int .i64 id.a, .int .i64 id.b, .int .u64 (id.c : Int)] 27)).heap.size = (w1.heap.size + 1) := (by first | rfl | simp); omega)
            refine hK.out _ _ (fun _ _ => ⟨(HB7.out.vr.cell 4).trans o.c4, HB7.out.idb.cell 0, HB7.out.idb.cell 1, HB7.out.idb.cell 2⟩) ?_
            clear hK K
            try simp only [Act.put, List.getElem_toArray, List.getElem_cons_succ, List.getElem_cons_zero, List.setIfInBounds_toArray, List.set_cons_zero, List.set_cons_succ]
            refine Ord.AnyR.ready1 (i := 3) (by kernel_rfl) rfl (fun K hK => ?_)
            refine step_push_ls ki_nm rfl (.tmp 54) (.tmp 56) rfl w1.heap.size ⟨[], some ⟨(w1.heap.size + 1), 0, none⟩, 0⟩ o.past HEM7.out rfl HB7.out.lies.past.no rfl (by show 0 + o.past.l.length ≤ _; omega) HSZ7.out ?_
            intro z8 p8 hz hgz hgw
            have HZ8 := Lib.hid (show z8.l = o.past.l from hz)
            have HGZ8 := Lib.hid hgz
            have HB8 := Lib.hid (HB7.out.grown hgw fun g eg => by have := (HEM7.out.lt g eg).1; omega)
            have HSZ8 := Lib.hid (show w1.heap.size ≤ p8.heap.size from Nat.le_trans HSZ7.out hgw.size)
            have HSRC8 := Lib.hid (HSRC7.out.bf (F := fun k => k = (w1.heap.size + 1)) (Bf.grown hgw fun g eg => by injection eg with eg; exact eg.symm) HNE7.out)
            clear hz hgz hgw
            refine hK.out _ _ (fun _ _ => ⟨(HB8.out.vr.cell 4).trans o.c4, HB8.out.idb.cell 0, HB8.out.idb.cell 1, HB8.out.idb.cell 2⟩) ?_
            clear hK K
            try simp only [Act.put, List.getElem_toArray, List.getElem_cons_succ, List.getElem_cons_zero, List.setIfInBounds_toArray, List.set_cons_zero, List.set_cons_succ]
            refine Ord.AnyR.ready1 (i := 6) (by kernel_rfl) rfl (fun K hK => ?_)
            refine step_push1 ki_nm rfl (.tmp 57) (.tmp 59) rfl w1.heap.size z8 HGZ8.out rfl ⟨w1.heap.size, 0, none⟩ 1 1 [id] rfl rfl (by omega) HSRC8.out.src (by rw [HZ8.out]; simp only [List.length_singleton]; omega) HSZ8.out ?_
            intro z2 w4 hz2 hg2 hgw _
            have HZ2 := Lib.hid (show z2.l = o.past.l ++ [id] by rw [hz2, HZ8.out])
            have HG2 := Lib.hid hg2
            have HB4 := Lib.hid (HB8.out.grown hgw fun g eg => by have := (HGZ8.out.lt g eg).1; omega)
            have kk := (HB4.out.vr.cell 4).trans o.c4
            have kf := HB4.out.vr.frozen 4
            clear hz2 hg2 hgw
            rw [show z2.v = .slice z2.A z2.l.length z2.c from rfl]
            refine hK.out _ _ (fun _ _ => ⟨(HB4.out.vr.cell 4).trans o.c4, HB4.out.idb.cell 0, HB4.out.idb.cell 1, HB4.out.idb.cell 2⟩) ?_
            clear hK K
            try simp only [Act.put, List.getElem_toArray, List.getElem_cons_succ, List.getElem_cons_zero, List.setIfInBounds_toArray, List.set_cons_zero, List.set_cons_succ]
            refine Ord.AnyR.take (i := 7) (v := ?_) rfl (by kernel_rfl) (by kernel_rfl) (by kernel_rfl) (fun _ _ _ h => h) (fun _ _ h => h) (Or.inl ⟨by rfl, ?_⟩) ?_
            rotate_left
            · (intro w; go_simp; try (with_reducible rfl))
            try simp only [Act.put, List.getElem_toArray, List.getElem_cons_succ, List.getElem_cons_zero, List.setIfInBounds_toArray, List.set_cons_zero, List.set_cons_succ]
            refine Ord.AnyR.ready1 (i := 8) (by kernel_rfl) rfl (fun K hK => ?_)
            go_simp
            refine hK.out _ _ (fun h => absurd h (by decide)) ?_
            clear hK K
            try simp only [Act.put, List.getElem_toArray, List.getElem_cons_succ, List.getElem_cons_zero, List.setIfInBounds_toArray, List.set_cons_zero, List.set_cons_succ]
            refine Ord.AnyR.end_ (by kernel_rfl) ?_ _
            go_wp2
            go_meet
            have hz2 := HZ2.out
            have hlz : Lz kNm (Own3 w.heap.size) w4 z2 := HG2.out.lz fun k hk => by have := hk.2; omega
            have hl4 := HB4.out.be.lies
            have h1 : z2.l.length = o.past.l.length + 1 := by rw [hz2, List.length_append]; rfl
            refine ⟨{ o with past := z2 }, HB4.out.fld 4 (.slice z2.A z2.l.length z2.c) { o with past := z2 } rfl ⟨hlz, hl4.path, hl4.pathB, hl4.body, hl4.refs, hl4.guards, hl4.boxes, hl4.hist, hl4.histB⟩, ?_, ⟨by show z2.l.length ≤ m + 1; omega, HR.out.up.2⟩⟩
            refine { HT.out with past := (by show z2.l.length ≤ 20; omega), ok := { HT.out.ok with past := ⟨(by show z2.l.length ≤ 1000; omega), fun y hy => ?_⟩ } }
            have hy : y ∈ z2.l := hy
            rw [hz2] at hy
            rcases List.mem_append.1 hy with h | h
            · exact HT.out.ok.past.2 y h
            · rw [List.mem_singleton.1 h]; exact HID.out
      · as_aux_lemma =>
          have kk := (HB.out.vr.cell 5).trans o.c5
          have kf := HB.out.vr.frozen 5
          go_wp2
          go_meet
          exact ⟨{ o with dev := n }, HB.out.fld 5 (.int .i64 n) { o with dev := n } rfl (let hl := HB.out.be.lies; ⟨hl.past, hl.path, hl.pathB, hl.body, hl.refs, hl.guards, hl.boxes, hl.hist, hl.histB⟩), { HT.out with ok := { HT.out.ok with dev := HN.out } }, HR.out.up⟩
      · as_aux_lemma =>
          have kk := (HB.out.vr.cell 6).trans o.c6
          have kf := HB.out.vr.frozen 6
          go_wp2
          go_meet
          exact ⟨{ o with old := n }, HB.out.fld 6 (.int .i64 n) { o with old := n } rfl (let hl := HB.out.be.lies; ⟨hl.past, hl.path, hl.pathB, hl.body, hl.refs, hl.guards, hl.boxes, hl.hist, hl.histB⟩), { HT.out with ok := { HT.out.ok with old := HN.out } }, HR.out.up⟩
      · as_aux_lemma =>
          have kk := (HB.out.vr.cell 7).trans o.c7
          have kf := HB.out.vr.frozen 7
          go_wp2
          go_meet
          exact ⟨{ o with mem := n }, HB.out.fld 7 (.int .i64 n) { o with mem := n } rfl (let hl := HB.out.be.lies; ⟨hl.past, hl.path, hl.pathB, hl.body, hl.refs, hl.guards, hl.boxes, hl.hist, hl.histB⟩), { HT.out with ok := { HT.out.ok with mem := HN.out } }, HR.out.up⟩
      · as_aux_lemma =>
          have kk := (HB.out.vr.cell 8).trans o.c8
          have kf := HB.out.vr.frozen 8
          go_wp2
          go_meet
          exact ⟨{ o with role := n }, HB.out.fld 8 (.int .i64 n) { o with role := n } rfl (let hl := HB.out.be.lies; ⟨hl.past, hl.path, hl.pathB, hl.body, hl.refs, hl.guards, hl.boxes, hl.hist, hl.histB⟩), { HT.out with ok := { HT.out.ok with role := HN.out } }, HR.out.up⟩
      · as_aux_lemma =>
          have HEM := Lib.hid (gr_empty0 kNd (B := w1.heap.size) w1 (Nat.le_refl _))
          have HBE := Lib.hid (HB.out.alloc (.cells #[] 66))
          have HXE := Lib.hid (HBE.out.lies.path.no)
          have kk := (HBE.out.vr.cell 9).trans o.c9
          have hsz := HB.out.size
          have hro := HR.out.2.1
          go_wp2_with (first
            | (at_builtin; refine wpList_push_ls ki_nd rfl _ _ rfl w1.heap.size ⟨[], some ⟨w1.heap.size, 0, none⟩, 0⟩ o.path HEM.out rfl HXE.out rfl (by show 0 + o.path.l.length ≤ _; omega) (by simp) ?_; intro z w2 hz hgz hbz hgw; have HZ := Lib.hid (show z.l = o.path.l from hz); have HB2 := Lib.hid (HBE.out.grown hgw fun g eg => by have := (HEM.out.lt g eg).1; omega); have HGZ := Lib.hid (hgz.below ((Below.refl _ w2).alloc (Nat.le_refl _) (.cells #[.int .u64 (uz : Int), .slice none 0 0] 66))); have HB3 := Lib.hid (HB2.out.alloc (.cells #[.int .u64 (uz : Int), .slice none 0 0] 66)); have HSRC := Lib.hid (show ∀ j u, (kNd.cells [⟨uz, Ls.nil⟩])[j]? = some u → (w2.alloc (.cells #[.int .u64 (uz : Int), .slice none 0 0] 66)).cell? ((⟨w2.heap.size, 0, none⟩ : Addr).add j) = some u from fun j u hu => by rw [kNd.cells_one] at hu; exact cell_new w2 #[.int .u64 (uz : Int), .slice none 0 0] 66 j u hu); have HS2 := Lib.hid (show w1.heap.size ≤ (w2.alloc (.cells #[.int .u64 (uz : Int), .slice none 0 0] 66)).heap.size by have := hgw.size; simp at this; simp; omega); clear hz hgz hbz hgw HEM HBE HXE kk)
            | (at_builtin; refine wpList_push1 ki_nd rfl _ _ rfl w1.heap.size z HGZ.out rfl _ 1 1 [⟨uz, Ls.nil⟩] rfl rfl (by omega) HSRC.out (by rw [HZ.out]; simp only [List.length_singleton]; omega) HS2.out ?_; intro z2 w4 hz2 hg2 hgw _; have HZ2 := Lib.hid hz2; have HG2 := Lib.hid hg2; have HB4 := Lib.hid (HB3.out.grown hgw fun g eg => by have := (HGZ.out.lt g eg).1; omega); have kk := (HB4.out.vr.cell 9).trans o.c9; have kf := HB4.out.vr.frozen 9; clear hz2 hg2 hgw HGZ HSRC HS2 HB3; rw [show z2.v = .slice z2.A z2.l.length z2.c from rfl]))
          go_meet
          have hz2 : z2.l = o.path.l ++ [⟨uz, Ls.nil⟩] := by rw [HZ2.out, HZ.out]
          have hlz : Lz kNd (Own3 w.heap.size) w4 z2 := HG2.out.lz fun k hk => by have := hk.2; omega
          have hl4 := HB4.out.be.lies
          refine ⟨{ o with path := z2 }, HB4.out.fld 9 (.slice z2.A z2.l.length z2.c) { o with path := z2 } rfl ⟨hl4.past, hlz, (fun y hy => by rw [hz2] at hy; rcases List.mem_append.1 hy with h | h; exact hl4.pathB y h; rw [List.mem_singleton.1 h]; exact Lz.empty _ _), hl4.body, hl4.refs, hl4.guards, hl4.boxes, hl4.hist, hl4.histB⟩, ?_, ?_⟩
          · have h1 : z2.l.length = o.path.l.length + 1 := by rw [hz2, List.length_append]; rfl
            have h3 : ∀ y ∈ z2.l.map LNd.er, okNd y ∧ y.boxes.length ≤ 20 := by
              intro y hy
              obtain ⟨v, hv, rfl⟩ := List.mem_map.1 hy
              rw [hz2] at hv
              rcases List.mem_append.1 hv with h | h
              · exact ⟨HT.out.ok.path.2 _ (List.mem_map_of_mem h), HT.out.pathB _ (List.mem_map_of_mem h)⟩
              · rw [List.mem_singleton.1 h]; exact ⟨⟨HU.out, Nat.zero_le _, fun _ h => nomatch h⟩, Nat.zero_le _⟩
            have h4 : (z2.l.map LNd.er).length ≤ 20 := by rw [List.length_map]; omega
            exact { HT.out with path := h4, pathB := (fun y hy => (h3 y hy).2), ok := { HT.out.ok with path := ⟨Nat.le_trans h4 (by omega), fun y hy => (h3 y hy).1⟩ } }
          · have h1 : z2.l.length = o.path.l.length + 1 := by rw [hz2, List.length_append]; rfl
            have h2 := HR.out.up
            exact ⟨h2.1, by show z2.l.length ≤ m + 1; omega, h2.2.2.1, h2.2.2.2.1, h2.2.2.2.2⟩
      · as_aux_lemma =>
          have hsz := HB.out.size
          go_wp2_with (at_make; refine wpList_makeK (K := kBx) (⟨0, 0, 0, 0⟩ : Bx) Tryz.underlying30 zero_bx rfl (by decide) (by decide) rfl _ _ rfl w1.heap.size few rfl rfl (by omega) (Nat.le_refl _) ?_; intro w2 hg hgw; have HG := Lib.hid hg; have HS := Lib.hid hgw.size; have HB4 := Lib.hid ((HB.out.grown hgw fun g eg => by cases eg).alloc (.cells #[.int .u64 1, .slice (some ⟨w1.heap.size, 0, none⟩) few few] 66)); have kk := (HB4.out.vr.cell 9).trans o.c9; have kf := HB4.out.vr.frozen 9; clear hg hgw)
          go_meet
          have hl4 := HB4.out.be.lies
          have hrl : (List.replicate few (⟨0, 0, 0, 0⟩ : Bx)).length = few := List.length_replicate
          have hbx : Lz kBx (Own3 w.heap.size) (w2.alloc (.cells #[.int .u64 1, .slice (some ⟨w1.heap.size, 0, none⟩) few few] 66)) ⟨List.replicate few (⟨0, 0, 0, 0⟩ : Bx), some ⟨w1.heap.size, 0, none⟩, few⟩ := (HG.out.lz (F := Own3 w.heap.size) fun k hk => by have := hk.2; omega).bf (Bf.alloc w2 _)
          have hnd : Lz kNd (Own3 w.heap.size) (w2.alloc (.cells #[.int .u64 1, .slice (some ⟨w1.heap.size, 0, none⟩) few few] 66)) ⟨[⟨1, ⟨List.replicate few (⟨0, 0, 0, 0⟩ : Bx), some ⟨w1.heap.size, 0, none⟩, few⟩⟩], some ⟨w2.heap.size, 0, none⟩, 1⟩ := lz_newF (K := kNd) w2 _ #[.int .u64 1, .slice (some ⟨w1.heap.size, 0, none⟩) few few] 1 (by show _ = [Value.int .u64 1, .slice (some ⟨w1.heap.size, 0, none⟩) (List.replicate few (⟨0, 0, 0, 0⟩ : Bx)).length few]; rw [hrl]) rfl (fun h => by have := h.2; have := HS.out; omega)
          refine ⟨{ o with path := ⟨[⟨1, ⟨List.replicate few (⟨0, 0, 0, 0⟩ : Bx), some ⟨w1.heap.size, 0, none⟩, few⟩⟩], some ⟨w2.heap.size, 0, none⟩, 1⟩ }, HB4.out.fld 9 (.slice (some ⟨w2.heap.size, 0, none⟩) 1 1) { o with path := ⟨[⟨1, ⟨List.replicate few (⟨0, 0, 0, 0⟩ : Bx), some ⟨w1.heap.size, 0, none⟩, few⟩⟩], some ⟨w2.heap.size, 0, none⟩, 1⟩ } rfl ⟨hl4.past, hnd, (fun y hy => by rw [List.mem_singleton.1 hy]; exact hbx), hl4.body, hl4.refs, hl4.guards, hl4.boxes, hl4.hist, hl4.histB⟩, ?_, ⟨HR.out.up.1, Nat.succ_le_succ (Nat.zero_le m), HR.out.up.2.2⟩⟩
          have h3 : ∀ y ∈ [(⟨1, List.replicate few (⟨0, 0, 0, 0⟩ : Bx)⟩ : Nd)], okNd y ∧ y.boxes.length ≤ 20 := by
            intro y hy
            rw [List.mem_singleton.1 hy]
            have hz : (0 : Nat) < 18446744073709551616 := by omega
            refine ⟨⟨by show 1 < 18446744073709551616; omega, by show (List.replicate few (⟨0, 0, 0, 0⟩ : Bx)).length ≤ 1000; rw [hrl]; omega, fun b hb => ?_⟩, by show (List.replicate few (⟨0, 0, 0, 0⟩ : Bx)).length ≤ 20; rw [hrl]; omega⟩
            rw [(List.mem_replicate.1 hb).2]
            exact ⟨hz, hz, hz, hz⟩
          exact { HT.out with path := (by show 1 ≤ 20; omega), pathB := (fun y hy => (h3 y hy).2), ok := { HT.out.ok with path := ⟨(by show 1 ≤ 1000; omega), fun y hy => (h3 y hy).1⟩ } }
      · as_aux_lemma =>
          have k0 := HB.out.idb.cell 0
          have k1 := HB.out.idb.cell 1
          have k2 := HB.out.idb.cell 2
          go_wp2_with (refine wpList_store_epoch rfl (.tmp 99) (.tmp 98) rfl (n := id) rfl rfl HB.out.vr ?_; intro wS hvS hgS; have HBS := Lib.hid (HB.out.put hgS hvS (let hl := HB.out.be.lies; ⟨hl.past, hl.path, hl.pathB, hl.body, hl.refs, hl.guards, hl.boxes, hl.hist, hl.histB⟩)); clear hvS hgS)
          go_meet
          exact ⟨{ o with epoch := id }, HBS.out, { HT.out with ok := { HT.out.ok with epoch := HID.out } }, HR.out.up⟩
      · as_aux_lemma =>
          have kk := (HB.out.vr.cell 13).trans o.c13
          have kf := HB.out.vr.frozen 13
          go_wp2
          go_meet
          exact ⟨{ o with n := n }, HB.out.fld 13 (.int .i64 n) { o with n := n } rfl (let hl := HB.out.be.lies; ⟨hl.past, hl.path, hl.pathB, hl.body, hl.refs, hl.guards, hl.boxes, hl.hist, hl.histB⟩), { HT.out with ok := { HT.out.ok with n := HN.out } }, HR.out.up⟩
      · as_aux_lemma =>
          have hsz := HB.out.size
          go_wp2_with (at_make; refine wpList_makeK (K := kU8) (0 : UInt8) Tryz.underlying28 zero_u8 rfl (by decide) (by decide) rfl _ _ rfl w1.heap.size (200 + few) rfl rfl (by omega) (Nat.le_refl _) ?_; intro w2 hg hgw; have HG := Lib.hid hg; have HB4 := Lib.hid (HB.out.grown hgw fun g eg => by cases eg); have kk := (HB4.out.vr.cell 14).trans o.c14; have kf := HB4.out.vr.frozen 14; clear hg hgw)
          go_meet
          have hl4 := HB4.out.be.lies
          have hlz : Lz kU8 (Own3 w.heap.size) w2 ⟨List.replicate (200 + few) (0 : UInt8), some ⟨w1.heap.size, 0, none⟩, 200 + few⟩ := HG.out.lz fun k hk => by have := hk.2; omega
          have hle : (List.replicate (200 + few) (0 : UInt8)).length = 200 + few := List.length_replicate
          refine ⟨{ o with body := ⟨List.replicate (200 + few) (0 : UInt8), some ⟨w1.heap.size, 0, none⟩, 200 + few⟩ }, HB4.out.fld 14 (.slice (some ⟨w1.heap.size, 0, none⟩) (200 + few) (200 + few)) { o with body := ⟨List.replicate (200 + few) (0 : UInt8), some ⟨w1.heap.size, 0, none⟩, 200 + few⟩ } (by unfold LOp.cells Ls.v; rw [hle]; rfl) ⟨hl4.past, hl4.path, hl4.pathB, hlz, hl4.refs, hl4.guards, hl4.boxes, hl4.hist, hl4.histB⟩, ?_, HR.out.up⟩
          exact { HT.out with body := (by show (List.replicate (200 + few) (0 : UInt8)).length ≤ 300; rw [hle]; omega), ok := { HT.out.ok with body := (by show (List.replicate (200 + few) (0 : UInt8)).length ≤ 1000000; rw [hle]; omega) } }
      · as_aux_lemma =>
          have hsz := HB.out.size
          go_wp2_with (first
            | (at_make; refine wpList_makeK (K := kU64) (0 : Nat) Tryz.underlying29 zero_u64 rfl (by decide) (by decide) rfl _ _ rfl w1.heap.size few rfl rfl (by omega) (Nat.le_refl _) ?_; intro w2 hg hgw; have HGZ := Lib.hid (hg.below ((Below.refl _ w2).alloc (Nat.le_refl _) (.cells #[.int .u64 (uz : Int)] 25))); have HB3 := Lib.hid ((HB.out.grown hgw fun g eg => by cases eg).alloc (.cells #[.int .u64 (uz : Int)] 25)); have HSRC := Lib.hid (show ∀ j u, (kU64.cells [uz])[j]? = some u → (w2.alloc (.cells #[.int .u64 (uz : Int)] 25)).cell? ((⟨w2.heap.size, 0, none⟩ : Addr).add j) = some u from fun j u hu => by rw [kU64.cells_one] at hu; exact cell_new w2 #[.int .u64 (uz : Int)] 25 j u hu); have HS2 := Lib.hid (show w1.heap.size ≤ (w2.alloc (.cells #[.int .u64 (uz : Int)] 25)).heap.size by have := hgw.size; simp; omega); have HVV := Lib.hid (show Value.slice (some ⟨w1.heap.size, 0, none⟩) few few = Ls.v ⟨List.replicate few (0 : Nat), some ⟨w1.heap.size, 0, none⟩, few⟩ by unfold Ls.v; rw [List.length_replicate]); clear hg hgw)
            | (at_builtin; refine wpList_push1 ki_u64 rfl _ _ rfl w1.heap.size _ HGZ.out HVV.out _ 1 1 [uz] rfl rfl (by omega) HSRC.out (by show (List.replicate few (0 : Nat)).length + 1 ≤ _; rw [List.length_replicate]; omega) HS2.out ?_; intro z2 w4 hz2 hg2 hgw _; have HZ2 := Lib.hid hz2; have HG2 := Lib.hid hg2; have HB4 := Lib.hid (HB3.out.grown hgw fun g eg => by have := (HGZ.out.lt g eg).1; omega); have kk := (HB4.out.vr.cell 15).trans o.c15; have kf := HB4.out.vr.frozen 15; clear hz2 hg2 hgw HGZ HSRC HS2 HB3; rw [show z2.v = .slice z2.A z2.l.length z2.c from rfl]))
          go_meet
          have hz2 : z2.l = List.replicate few (0 : Nat) ++ [uz] := HZ2.out
          have h1 : z2.l.length = few + 1 := by rw [hz2, List.length_append, List.length_replicate]; rfl
          have hlz : Lz kU64 (Own3 w.heap.size) w4 z2 := HG2.out.lz fun k hk => by have := hk.2; omega
          have hl4 := HB4.out.be.lies
          refine ⟨{ o with refs := z2 }, HB4.out.fld 15 (.slice z2.A z2.l.length z2.c) { o with refs := z2 } rfl ⟨hl4.past, hl4.path, hl4.pathB, hl4.body, hlz, hl4.guards, hl4.boxes, hl4.hist, hl4.histB⟩, ?_, HR.out.up⟩
          refine { HT.out with refs := (by show z2.l.length ≤ 20; omega), ok := { HT.out.ok with refs := ⟨(by show z2.l.length ≤ 1000; omega), fun y hy => ?_⟩ } }
          have hy : y ∈ z2.l := hy
          rw [hz2] at hy
          rcases List.mem_append.1 hy with h | h
          · rw [(List.mem_replicate.1 h).2]; show 0 < 18446744073709551616; omega
          · rw [List.mem_singleton.1 h]; exact HU.out
      · as_aux_lemma =>
          have k0 := HB.out.idb.cell 0
          have k1 := HB.out.idb.cell 1
          have k2 := HB.out.idb.cell 2
          go_wp2_with (refine wpList_store_of rfl (.tmp 121) (.tmp 120) rfl (n := id) rfl rfl HB.out.vr ?_; intro wS hvS hgS; have HBS := Lib.hid (HB.out.put hgS hvS (let hl := HB.out.be.lies; ⟨hl.past, hl.path, hl.pathB, hl.body, hl.refs, hl.guards, hl.boxes, hl.hist, hl.histB⟩)); clear hvS hgS)
          go_meet
          exact ⟨{ o with of_ := id }, HBS.out, { HT.out with ok := { HT.out.ok with of_ := HID.out } }, HR.out.up⟩
      · as_aux_lemma =>
          have HEM := Lib.hid (gr_empty0 kInt (B := w1.heap.size) w1 (Nat.le_refl _))
          have HBE := Lib.hid (HB.out.alloc (.cells #[] 3))
          have HXE := Lib.hid (HBE.out.lies.guards.no)
          have kk := (HBE.out.vr.cell 19).trans o.c19
          have hsz := HB.out.size
          have hro := HR.out.2.2.1
          go_wp2_with (first
            | (at_builtin; refine wpList_push_ls ki_int rfl _ _ rfl w1.heap.size ⟨[], some ⟨w1.heap.size, 0, none⟩, 0⟩ o.guards HEM.out rfl HXE.out rfl (by show 0 + o.guards.l.length ≤ _; omega) (by simp) ?_; intro z w2 hz hgz hbz hgw; have HZ := Lib.hid (show z.l = o.guards.l from hz); have HB2 := Lib.hid (HBE.out.grown hgw fun g eg => by have := (HEM.out.lt g eg).1; omega); have HGZ := Lib.hid (hgz.below ((Below.refl _ w2).alloc (Nat.le_refl _) (.cells #[.int .i64 n] 3))); have HB3 := Lib.hid (HB2.out.alloc (.cells #[.int .i64 n] 3)); have HSRC := Lib.hid (show ∀ j u, (kInt.cells [n])[j]? = some u → (w2.alloc (.cells #[.int .i64 n] 3)).cell? ((⟨w2.heap.size, 0, none⟩ : Addr).add j) = some u from fun j u hu => by rw [kInt.cells_one] at hu; exact cell_new w2 #[.int .i64 n] 3 j u hu); have HS2 := Lib.hid (show w1.heap.size ≤ (w2.alloc (.cells #[.int .i64 n] 3)).heap.size by have := hgw.size; simp at this; simp; omega); clear hz hgz hbz hgw HEM HBE HXE kk)
            | (at_builtin; refine wpList_push1 ki_int rfl _ _ rfl w1.heap.size z HGZ.out rfl _ 1 1 [n] rfl rfl (by omega) HSRC.out (by rw [HZ.out]; simp only [List.length_singleton]; omega) HS2.out ?_; intro z2 w4 hz2 hg2 hgw _; have HZ2 := Lib.hid hz2; have HG2 := Lib.hid hg2; have HB4 := Lib.hid (HB3.out.grown hgw fun g eg => by have := (HGZ.out.lt g eg).1; omega); have kk := (HB4.out.vr.cell 19).trans o.c19; have kf := HB4.out.vr.frozen 19; clear hz2 hg2 hgw HGZ HSRC HS2 HB3; rw [show z2.v = .slice z2.A z2.l.length z2.c from rfl]))
          go_meet
          have hz2 : z2.l = o.guards.l ++ [n] := by rw [HZ2.out, HZ.out]
          have hlz : Lz kInt (Own3 w.heap.size) w4 z2 := HG2.out.lz fun k hk => by have := hk.2; omega
          have hl4 := HB4.out.be.lies
          refine ⟨{ o with guards := z2 }, HB4.out.fld 19 (.slice z2.A z2.l.length z2.c) { o with guards := z2 } rfl ⟨hl4.past, hl4.path, hl4.pathB, hl4.body, hl4.refs, hlz, hl4.boxes, hl4.hist, hl4.histB⟩, ?_, ?_⟩
          · have h1 : z2.l.length = o.guards.l.length + 1 := by rw [hz2, List.length_append]; rfl
            refine { HT.out with guards := (by show z2.l.length ≤ 20; omega), ok := { HT.out.ok with guards := ⟨(by show z2.l.length ≤ 1000; omega), fun y hy => ?_⟩ } }
            have hy : y ∈ z2.l := hy
            rw [hz2] at hy
            rcases List.mem_append.1 hy with h | h
            · exact HT.out.ok.guards.2 y h
            · rw [List.mem_singleton.1 h]; exact HN.out
          · have h1 : z2.l.length = o.guards.l.length + 1 := by rw [hz2, List.length_append]; rfl
            have h2 := HR.out.up
            exact ⟨h2.1, h2.2.1, by show z2.l.length ≤ m + 1; omega, h2.2.2.2.1, h2.2.2.2.2⟩
      · as_aux_lemma =>
          have kk := (HB.out.vr.cell 20).trans o.c20
          have kf := HB.out.vr.frozen 20
          go_wp2
          go_meet
          exact ⟨{ o with need := n }, HB.out.fld 20 (.int .i64 n) { o with need := n } rfl (let hl := HB.out.be.lies; ⟨hl.past, hl.path, hl.pathB, hl.body, hl.refs, hl.guards, hl.boxes, hl.hist, hl.histB⟩), { HT.out with ok := { HT.out.ok with need := HN.out } }, HR.out.up⟩
      · as_aux_lemma =>
          have kk := (HB.out.vr.cell 21).trans o.c21
          have kf := HB.out.vr.frozen 21
          go_wp2
          go_meet
          exact ⟨{ o with wait := n }, HB.out.fld 21 (.int .i64 n) { o with wait := n } rfl (let hl := HB.out.be.lies; ⟨hl.past, hl.path, hl.pathB, hl.body, hl.refs, hl.guards, hl.boxes, hl.hist, hl.histB⟩), { HT.out with ok := { HT.out.ok with wait := HN.out } }, HR.out.up⟩
      · as_aux_lemma =>
          have HEM := Lib.hid (gr_empty0 kBx (B := w1.heap.size) w1 (Nat.le_refl _))
          have HBE := Lib.hid (HB.out.alloc (.cells #[] 68))
          have HXE := Lib.hid (HBE.out.lies.boxes.no)
          have kk := (HBE.out.vr.cell 22).trans o.c22
          have hsz := HB.out.size
          have hro := HR.out.2.2.2.1
          go_wp2_with (first
            | (at_builtin; refine wpList_push_ls ki_bx rfl _ _ rfl w1.heap.size ⟨[], some ⟨w1.heap.size, 0, none⟩, 0⟩ o.boxes HEM.out rfl HXE.out rfl (by show 0 + o.boxes.l.length ≤ _; omega) (by simp) ?_; intro z w2 hz hgz hbz hgw; have HZ := Lib.hid (show z.l = o.boxes.l from hz); have HB2 := Lib.hid (HBE.out.grown hgw fun g eg => by have := (HEM.out.lt g eg).1; omega); have HGZ := Lib.hid (hgz.below ((Below.refl _ w2).alloc (Nat.le_refl _) (.cells #[.int .u64 (uz : Int), .int .u64 1, .int .u64 (uz : Int), .int .u64 1] 68))); have HB3 := Lib.hid (HB2.out.alloc (.cells #[.int .u64 (uz : Int), .int .u64 1, .int .u64 (uz : Int), .int .u64 1] 68)); have HSRC := Lib.hid (show ∀ j u, (kBx.cells [⟨uz, 1, uz, 1⟩])[j]? = some u → (w2.alloc (.cells #[.int .u64 (uz : Int), .int .u64 1, .int .u64 (uz : Int), .int .u64 1] 68)).cell? ((⟨w2.heap.size, 0, none⟩ : Addr).add j) = some u from fun j u hu => by rw [kBx.cells_one] at hu; exact cell_new w2 #[.int .u64 (uz : Int), .int .u64 1, .int .u64 (uz : Int), .int .u64 1] 68 j u hu); have HS2 := Lib.hid (show w1.heap.size ≤ (w2.alloc (.cells #[.int .u64 (uz : Int), .int .u64 1, .int .u64 (uz : Int), .int .u64 1] 68)).heap.size by have := hgw.size; simp at this; simp; omega); clear hz hgz hbz hgw HEM HBE HXE kk)
            | (at_builtin; refine wpList_push1 ki_bx rfl _ _ rfl w1.heap.size z HGZ.out rfl _ 1 1 [⟨uz, 1, uz, 1⟩] rfl rfl (by omega) HSRC.out (by rw [HZ.out]; simp only [List.length_singleton]; omega) HS2.out ?_; intro z2 w4 hz2 hg2 hgw _; have HZ2 := Lib.hid hz2; have HG2 := Lib.hid hg2; have HB4 := Lib.hid (HB3.out.grown hgw fun g eg => by have := (HGZ.out.lt g eg).1; omega); have kk := (HB4.out.vr.cell 22).trans o.c22; have kf := HB4.out.vr.frozen 22; clear hz2 hg2 hgw HGZ HSRC HS2 HB3; rw [show z2.v = .slice z2.A z2.l.length z2.c from rfl]))
          go_meet
          have hz2 : z2.l = o.boxes.l ++ [⟨uz, 1, uz, 1⟩] := by rw [HZ2.out, HZ.out]
          have hlz : Lz kBx (Own3 w.heap.size) w4 z2 := HG2.out.lz fun k hk => by have := hk.2; omega
          have hl4 := HB4.out.be.lies
          refine ⟨{ o with boxes := z2 }, HB4.out.fld 22 (.slice z2.A z2.l.length z2.c) { o with boxes := z2 } rfl ⟨hl4.past, hl4.path, hl4.pathB, hl4.body, hl4.refs, hl4.guards, hlz, hl4.hist, hl4.histB⟩, ?_, ?_⟩
          · have h1 : z2.l.length = o.boxes.l.length + 1 := by rw [hz2, List.length_append]; rfl
            refine { HT.out with boxes := (by show z2.l.length ≤ 20; omega), ok := { HT.out.ok with boxes := ⟨(by show z2.l.length ≤ 1000; omega), fun y hy => ?_⟩ } }
            have hy : y ∈ z2.l := hy
            rw [hz2] at hy
            rcases List.mem_append.1 hy with h | h
            · exact HT.out.ok.boxes.2 y h
            · rw [List.mem_singleton.1 h]; exact ⟨HU.out, by show 1 < 18446744073709551616; omega, HU.out, by show 1 < 18446744073709551616; omega⟩
          · have h1 : z2.l.length = o.boxes.l.length + 1 := by rw [hz2, List.length_append]; rfl
            have h2 := HR.out.up
            exact ⟨h2.1, h2.2.1, h2.2.2.1, by show z2.l.length ≤ m + 1; omega, h2.2.2.2.2⟩
      · as_aux_lemma =>
          have kk := (HB.out.vr.cell 23).trans o.c23
          have kf := HB.out.vr.frozen 23
          go_wp2
          go_meet
          exact ⟨{ o with pub := uz }, HB.out.fld 23 (.int .u64 (uz : Int)) { o with pub := uz } rfl (let hl := HB.out.be.lies; ⟨hl.past, hl.path, hl.pathB, hl.body, hl.refs, hl.guards, hl.boxes, hl.hist, hl.histB⟩), { HT.out with ok := { HT.out.ok with pub := HU.out } }, HR.out.up⟩
      · as_aux_lemma =>
          have hsz := HB.out.size
          have hro := HR.out.2.2.2.2
          have HBd := Lib.hid (HB.out.below (below_drewN w1 1 (w.heap.size + 3)))
          have HSZ := Lib.hid (show w1.heap.size ≤ w1.drew.heap.size from Nat.le_refl _)
          have hS : w1.drew.cell? ⟨w.heap.size, 24, none⟩ = some (.slice o.hist.A o.hist.l.length o.hist.c) ∧ w1.drew.cell? ⟨w.heap.size + 1 + 1, 0, none⟩ = some (.int .i64 id.a) ∧ w1.drew.cell? ⟨w.heap.size + 1 + 1, 1, none⟩ = some (.int .i64 id.b) ∧ w1.drew.cell? ⟨w.heap.size + 1 + 1, 2, none⟩ = some (.int .u64 (id.c : Int)) := ⟨(HBd.out.vr.cell 24).trans o.c24, HBd.out.idb.cell 0, HBd.out.idb.cell 1, HBd.out.idb.cell 2⟩
          have hwf : IntKind.i64.wrap (200 + (few : Int)) = 200 + (few : Int) := by rw [IntKind.wrap_i64]; omega
          go_wp2
          refine Ord.start (by kernel_rfl) ?_
          try simp only [Act.put, List.getElem_toArray, List.getElem_cons_succ, List.getElem_cons_zero, List.setIfInBounds_toArray, List.set_cons_zero, List.set_cons_succ]
          refine wpAny_take (i := 1) (v := ?_) rfl (by kernel_rfl) (by kernel_rfl) (by kernel_rfl) (fun _ _ _ h => h) (Or.inl ⟨by rfl, ?_⟩) ?_
          rotate_left
          · (intro w; go_simp; try (with_reducible rfl))
          try simp only [Act.put, List.getElem_toArray, List.getElem_cons_succ, List.getElem_cons_zero, List.setIfInBounds_toArray, List.set_cons_zero, List.set_cons_succ]
          refine Ord.load_first [12] (fun w' : World => w'.cell? ⟨w.heap.size, 24, none⟩ = some (.slice o.hist.A o.hist.l.length o.hist.c) ∧ w'.cell? ⟨w.heap.size + 1 + 1, 0, none⟩ = some (.int .i64 id.a) ∧ w'.cell? ⟨w.heap.size + 1 + 1, 1, none⟩ = some (.int .i64 id.b) ∧ w'.cell? ⟨w.heap.size + 1 + 1, 2, none⟩ = some (.int .u64 (id.c : Int))) (i := 2) (v := ?_) rfl (by kernel_rfl) (by kernel_rfl) (by kernel_rfl) (by kernel_rfl) (by kernel_rfl) (fun _ _ _ h => h) (Or.inl ⟨by rfl, ?_⟩) hS ?_
          rotate_left
          · (intro w hSw; (try dsimp only at hSw); obtain ⟨t0, t1, t2, t3⟩ := hSw; go_simp; try (with_reducible rfl))
          try simp only [Act.put, List.getElem_toArray, List.getElem_cons_succ, List.getElem_cons_zero, List.setIfInBounds_toArray, List.set_cons_zero, List.set_cons_succ]
          refine Ord.AnyR.load (i := 4) (v := ?_) rfl (by kernel_rfl) (by kernel_rfl) (by kernel_rfl) (by kernel_rfl) (by kernel_rfl) (fun _ _ _ h => h) (Or.inl ⟨by rfl, ?_⟩) hS ?_
          rotate_left
          · (intro w hSw; (try dsimp only at hSw); obtain ⟨t0, t1, t2, t3⟩ := hSw; go_simp; try (with_reducible rfl))
          try simp only [Act.put, List.getElem_toArray, List.getElem_cons_succ, List.getElem_cons_zero, List.setIfInBounds_toArray, List.set_cons_zero, List.set_cons_succ]
          refine Ord.AnyR.take (i := 5) (v := ?_) rfl (by kernel_rfl) (by kernel_rfl) (by kernel_rfl) (fun _ _ _ h => h) (fun _ _ h => h) (Or.inl ⟨by rfl, ?_⟩) ?_
          rotate_left
          · (intro w; go_simp; try (with_reducible rfl))
          try simp only [Act.put, List.getElem_toArray, List.getElem_cons_succ, List.getElem_cons_zero, List.setIfInBounds_toArray, List.set_cons_zero, List.set_cons_succ]
          refine Ord.AnyR.take (i := 6) (v := ?_) rfl (by kernel_rfl) (by kernel_rfl) (by kernel_rfl) (fun _ _ _ h => h) (fun _ _ h => h) (Or.inl ⟨by rfl, ?_⟩) ?_
          rotate_left
          · (intro w; go_simp; try (with_reducible rfl))
          try simp only [Act.put, List.getElem_toArray, List.getElem_cons_succ, List.getElem_cons_zero, List.setIfInBounds_toArray, List.set_cons_zero, List.set_cons_succ]
          clear hS
          refine Ord.AnyR.ready2 (i := 0) (j := 7) (by kernel_rfl) rfl rfl (fun K hK => ?_) (fun K hK => ?_)
          · go_simp
            have HB1 := Lib.hid (HBd.out.alloc (.cells #[] 81))
            have HSZ1 := Lib.hid (show w1.heap.size ≤ (w1.drew.alloc (.cells #[] 81)).heap.size from Nat.le_trans HSZ.out (by simp))
            have hE := gr_empty0 kSd (B := w1.heap.size) w1.drew HSZ.out
            rw [show w1.drew.heap.size = w1.heap.size from by first | rfl | simp] at hE
            have HEM1 := Lib.hid (show Gr kSd w1.heap.size (w1.drew.alloc (.cells #[] 81)) ⟨[], some ⟨w1.heap.size, 0, none⟩, 0⟩ from hE)
            clear hE
            have HLE1 := Lib.hid (show w1.heap.size < (w1.drew.alloc (.cells #[] 81)).heap.size from by first | (simp; done) | exact Nat.lt_succ_self _)
            refine hK.out _ _ (fun _ _ => ⟨(HB1.out.vr.cell 24).trans o.c24, HB1.out.idb.cell 0, HB1.out.idb.cell 1, HB1.out.idb.cell 2⟩) ?_
            clear hK K
            try simp only [Act.put, List.getElem_toArray, List.getElem_cons_succ, List.getElem_cons_zero, List.setIfInBounds_toArray, List.set_cons_zero, List.set_cons_succ]
            refine Ord.AnyR.ready2 (i := 3) (j := 7) (by kernel_rfl) rfl rfl (fun K hK => ?_) (fun K hK => ?_)
            · refine step_push_ls ki_sd rfl (.tmp 24) (.tmp 26) rfl w1.heap.size ⟨[], some ⟨w1.heap.size, 0, none⟩, 0⟩ o.hist HEM1.out rfl HB1.out.lies.hist.no rfl (by show 0 + o.hist.l.length ≤ _; omega) HSZ1.out ?_
              intro z2 p2 hz hgz hgw
              have HZ2 := Lib.hid (show z2.l = o.hist.l from hz)
              have HGZ2 := Lib.hid hgz
              have HB2 := Lib.hid (HB1.out.grown hgw fun g eg => by have := (HEM1.out.lt g eg).1; omega)
              have HSZ2 := Lib.hid (show w1.heap.size ≤ p2.heap.size from Nat.le_trans HSZ1.out hgw.size)
              clear hz hgz hgw
              refine hK.out _ _ (fun _ _ => ⟨(HB2.out.vr.cell 24).trans o.c24, HB2.out.idb.cell 0, HB2.out.idb.cell 1, HB2.out.idb.cell 2⟩) ?_
              clear hK K
              try simp only [Act.put, List.getElem_toArray, List.getElem_cons_succ, List.getElem_cons_zero, List.setIfInBounds_toArray, List.set_cons_zero, List.set_cons_succ]
              refine Ord.AnyR.ready1 (i := 7) (by kernel_rfl) rfl (fun K hK => ?_)
              rw [if_pos (by rfl)]
              refine wp_makeK (K := kU8) (0 : UInt8) Tryz.underlying28 zero_u8 rfl (by decide) (by decide) _ _ rfl w1.heap.size (200 + few) rfl rfl (by omega) HSZ2.out ?_
              intro m3 hg hgw
              have HMK3 := Lib.hid hg
              have HB3 := Lib.hid (HB2.out.grown hgw fun g eg => by cases eg)
              have HSZ3 := Lib.hid (show w1.heap.size ≤ m3.heap.size from Nat.le_trans HSZ2.out hgw.size)
              have HGZ3 := Lib.hid (HGZ2.out.grown hgw fun g eg => by cases eg)
              clear hg hgw
              refine hK.out _ _ (fun _ _ => ⟨(HB3.out.vr.cell 24).trans o.c24, HB3.out.idb.cell 0, HB3.out.idb.cell 1, HB3.out.idb.cell 2⟩) ?_
              clear hK K
              try simp only [Act.put, List.getElem_toArray, List.getElem_cons_succ, List.getElem_cons_zero, List.setIfInBounds_toArray, List.set_cons_zero, List.set_cons_succ]
              refine Ord.AnyR.take (i := 8) (v := ?_) rfl (by kernel_rfl) (by kernel_rfl) (by kernel_rfl) (fun _ _ _ h => h) (fun _ _ h => h) (Or.inl ⟨by rfl, ?_⟩) ?_
              rotate_left
              · (intro w; go_simp; try (with_reducible rfl))
              try simp only [Act.put, List.getElem_toArray, List.getElem_cons_succ, List.getElem_cons_zero, List.setIfInBounds_toArray, List.set_cons_zero, List.set_cons_succ]
              refine Ord.AnyR.ready1 (i := 9) (by kernel_rfl) rfl (fun K hK => ?_)
              go_simp
              have HB4 := Lib.hid (HB3.out.alloc (.cells #[.int .i64 id.a, .int .i64 id.b, .int .u64 (id.c : Int), .slice (some ⟨p2.heap.size, 0, none⟩) (200 + few) (200 + few)] 81))
              have HSZ4 := Lib.hid (show w1.heap.size ≤ (m3.alloc (.cells #[.int .i64 id.a, .int .i64 id.b, .int .u64 (id.c : Int), .slice (some ⟨p2.heap.size, 0, none⟩) (200 + few) (200 + few)] 81)).heap.size from Nat.le_trans HSZ3.out (by simp))
              have hI := Src.new kSd m3 ⟨id, ⟨List.replicate (200 + few) (0 : UInt8), some ⟨p2.heap.size, 0, none⟩, 200 + few⟩⟩ #[.int .i64 id.a, .int .i64 id.b, .int .u64 (id.c : Int), .slice (some ⟨p2.heap.size, 0, none⟩) (200 + few) (200 + few)] (by show _ = [Value.int .i64 id.a, .int .i64 id.b, .int .u64 (id.c : Int), .slice (some ⟨p2.heap.size, 0, none⟩) (List.replicate (200 + few) (0 : UInt8)).length (200 + few)]; rw [List.length_replicate])
              have HSRC4 := Lib.hid (show Src kSd (m3.alloc (.cells #[.int .i64 id.a, .int .i64 id.b, .int .u64 (id.c : Int), .slice (some ⟨p2.heap.size, 0, none⟩) (200 + few) (200 + few)] 81)) (m3.heap.size) ⟨id, ⟨List.replicate (200 + few) (0 : UInt8), some ⟨p2.heap.size, 0, none⟩, 200 + few⟩⟩ from by have h2 : m3.heap.size = m3.heap.size := (by first | rfl | simp); rw [← h2]; exact hI)
              clear hI
              have HLI4 := Lib.hid (show m3.heap.size < (m3.alloc (.cells #[.int .i64 id.a, .int .i64 id.b, .int .u64 (id.c : Int), .slice (some ⟨p2.heap.size, 0, none⟩) (200 + few) (200 + few)] 81)).heap.size from by first | (simp; done) | exact Nat.lt_succ_self _)
              have HGZ4 := Lib.hid (HGZ3.out.below ((Below.refl _ m3).alloc (Nat.le_refl _) (.cells #[.int .i64 id.a, .int .i64 id.b, .int .u64 (id.c : Int), .slice (some ⟨p2.heap.size, 0, none⟩) (200 + few) (200 + few)] 81)))
              have HMK4 := Lib.hid (HMK3.out.below ((Below.refl _ m3).alloc (Nat.le_refl _) (.cells #[.int .i64 id.a, .int .i64 id.b, .int .u64 (id.c : Int), .slice (some ⟨p2.heap.size, 0, none⟩) (200 + few) (200 + few)] 81)))
              refine hK.out _ _ (fun _ _ => ⟨(HB4.out.vr.cell 24).trans o.c24, HB4.out.idb.cell 0, HB4.out.idb.cell 1, HB4.out.idb.cell 2⟩) ?_
              clear hK K
              try simp only [Act.put, List.getElem_toArray, List.getElem_cons_succ, List.getElem_cons_zero, List.setIfInBounds_toArray, List.set_cons_zero, List.set_cons_succ]
              refine Ord.AnyR.ready1 (i := 10) (by kernel_rfl) rfl (fun K hK => ?_)
              refine step_push1 ki_sd rfl (.tmp 27) (.tmp 33) rfl w1.heap.size z2 HGZ4.out rfl ⟨m3.heap.size, 0, none⟩ 1 1 [⟨id, ⟨List.replicate (200 + few) (0 : UInt8), some ⟨p2.heap.size, 0, none⟩, 200 + few⟩⟩] rfl rfl (by omega) HSRC4.out.src (by rw [HZ2.out]; simp only [List.length_singleton]; omega) HSZ4.out ?_
              intro z2 w4 hz2 hg2 hgw _
              have HZ2 := Lib.hid (show z2.l = o.hist.l ++ [⟨id, ⟨List.replicate (200 + few) (0 : UInt8), some ⟨p2.heap.size, 0, none⟩, 200 + few⟩⟩] by rw [hz2, HZ2.out])
              have HG2 := Lib.hid hg2
              have HB4 := Lib.hid (HB4.out.grown hgw fun g eg => by have := (HGZ4.out.lt g eg).1; omega)
              have HMKF := Lib.hid (Gr.beside HGZ4.out HMK4.out (by decide) hgw)
              have kk := (HB4.out.vr.cell 24).trans o.c24
              have kf := HB4.out.vr.frozen 24
              clear hz2 hg2 hgw
              rw [show z2.v = .slice z2.A z2.l.length z2.c from rfl]
              refine hK.out _ _ (fun _ _ => ⟨(HB4.out.vr.cell 24).trans o.c24, HB4.out.idb.cell 0, HB4.out.idb.cell 1, HB4.out.idb.cell 2⟩) ?_
              clear hK K
              try simp only [Act.put, List.getElem_toArray, List.getElem_cons_succ, List.getElem_cons_zero, List.setIfInBounds_toArray, List.set_cons_zero, List.set_cons_succ]
              refine Ord.AnyR.take (i := 11) (v := ?_) rfl (by kernel_rfl) (by kernel_rfl) (by kernel_rfl) (fun _ _ _ h => h) (fun _ _ h => h) (Or.inl ⟨by rfl, ?_⟩) ?_
              rotate_left
              · (intro w; go_simp; try (with_reducible rfl))
              try simp only [Act.put, List.getElem_toArray, List.getElem_cons_succ, List.getElem_cons_zero, List.setIfInBounds_toArray, List.set_cons_zero, List.set_cons_succ]
              refine Ord.AnyR.ready1 (i := 12) (by kernel_rfl) rfl (fun K hK => ?_)
              go_simp
              refine hK.out _ _ (fun h => absurd h (by decide)) ?_
              clear hK K
              try simp only [Act.put, List.getElem_toArray, List.getElem_cons_succ, List.getElem_cons_zero, List.setIfInBounds_toArray, List.set_cons_zero, List.set_cons_succ]
              refine Ord.AnyR.end_ (by kernel_rfl) ?_ _
              go_wp2
              go_meet
              have hz2 := HZ2.out
              have hlz : Lz kSd (Own3 w.heap.size) w4 z2 := HG2.out.lz fun k hk => by have := hk.2; omega
              have hbd : Lz kU8 (Own3 w.heap.size) w4 ⟨List.replicate (200 + few) (0 : UInt8), some ⟨p2.heap.size, 0, none⟩, 200 + few⟩ := HMKF.out.lz fun k hk => by have := hk.2; omega
              have hl4 := HB4.out.be.lies
              have h1 : z2.l.length = o.hist.l.length + 1 := by rw [hz2, List.length_append]; rfl
              have hle : (List.replicate (200 + few) (0 : UInt8)).length = 200 + few := List.length_replicate
              have h3 : ∀ y ∈ z2.l.map LSd.er, okSd y ∧ y.body.length ≤ 300 := by
                intro y hy
                obtain ⟨v, hv, rfl⟩ := List.mem_map.1 hy
                rw [hz2] at hv
                rcases List.mem_append.1 hv with h | h
                · exact ⟨HT.out.ok.hist.2 _ (List.mem_map_of_mem h), HT.out.histB _ (List.mem_map_of_mem h)⟩
                · rw [List.mem_singleton.1 h]; exact ⟨⟨HID.out, by show (List.replicate (200 + few) (0 : UInt8)).length ≤ 1000000; rw [hle]; omega⟩, by show (List.replicate (200 + few) (0 : UInt8)).length ≤ 300; rw [hle]; omega⟩
              have h4 : (z2.l.map LSd.er).length ≤ 20 := by rw [List.length_map]; omega
              refine ⟨{ o with hist := z2 }, HB4.out.fld 24 (.slice z2.A z2.l.length z2.c) { o with hist := z2 } rfl ⟨hl4.past, hl4.path, hl4.pathB, hl4.body, hl4.refs, hl4.guards, hl4.boxes, hlz, (fun y hy => by rw [hz2] at hy; rcases List.mem_append.1 hy with h | h; exact hl4.histB y h; rw [List.mem_singleton.1 h]; exact hbd)⟩, ?_, ⟨HR.out.up.1, HR.out.up.2.1, HR.out.up.2.2.1, HR.out.up.2.2.2.1, by show z2.l.length ≤ m + 1; omega⟩⟩
              exact { HT.out with hist := h4, histB := (fun y hy => (h3 y hy).2), ok := { HT.out.ok with hist := ⟨Nat.le_trans h4 (by omega), fun y hy => (h3 y hy).1⟩ } }
            · rw [if_pos (by rfl)]
              refine wp_makeK (K := kU8) (0 : UInt8) Tryz.underlying28 zero_u8 rfl (by decide) (by decide) _ _ rfl w1.heap.size (200 + few) rfl rfl (by omega) HSZ1.out ?_
              intro m5 hg hgw
              have HMK5 := Lib.hid (show Gr kU8 w1.heap.size m5 ⟨List.replicate (200 + few) (0 : UInt8), some ⟨(w1.heap.size + 1), 0, none⟩, 200 + few⟩ from by have h2 : (w1.drew.alloc (.cells #[] 81)).heap.size = (w1.heap.size + 1) := (by first | rfl | simp); rw [← h2]; exact hg)
              have HLE5 := Lib.hid (Nat.lt_of_lt_of_le HLE1.out hgw.size)
              have HB5 := Lib.hid (HB1.out.grown hgw fun g eg => by cases eg)
              have HSZ5 := Lib.hid (show w1.heap.size ≤ m5.heap.size from Nat.le_trans HSZ1.out hgw.size)
              have HEM5 := Lib.hid (HEM1.out.grown hgw fun g eg => by cases eg)
              clear hg hgw
              refine hK.out _ _ (fun _ _ => ⟨(HB5.out.vr.cell 24).trans o.c24, HB5.out.idb.cell 0, HB5.out.idb.cell 1, HB5.out.idb.cell 2⟩) ?_
              clear hK K
              try simp only [Act.put, List.getElem_toArray, List.getElem_cons_succ, List.getElem_cons_zero, List.setIfInBounds_toArray, List.set_cons_zero, List.set_cons_succ]
              refine Ord.AnyR.take (i := 8) (v := ?_) rfl (by kernel_rfl) (by kernel_rfl) (by kernel_rfl) (fun _ _ _ h => h) (fun _ _ h => h) (Or.inl ⟨by rfl, ?_⟩) ?_
              rotate_left
              · (intro w; go_simp; try (with_reducible rfl))
              try simp only [Act.put, List.getElem_toArray, List.getElem_cons_succ, List.getElem_cons_zero, List.setIfInBounds_toArray, List.set_cons_zero, List.set_cons_succ]
              refine Ord.AnyR.ready2 (i := 3) (j := 9) (by kernel_rfl) rfl rfl (fun K hK => ?_) (fun K hK => ?_)
              · refine step_push_ls ki_sd rfl (.tmp 24) (.tmp 26) rfl w1.heap.size ⟨[], some ⟨w1.heap.size, 0, none⟩, 0⟩ o.hist HEM5.out rfl HB5.out.lies.hist.no rfl (by show 0 + o.hist.l.length ≤ _; omega) HSZ5.out ?_
                intro z6 p6 hz hgz hgw
                have HZ6 := Lib.hid (show z6.l = o.hist.l from hz)
                have HGZ6 := Lib.hid hgz
                have HB6 := Lib.hid (HB5.out.grown hgw fun g eg => by have := (HEM5.out.lt g eg).1; omega)
                have HSZ6 := Lib.hid (show w1.heap.size ≤ p6.heap.size from Nat.le_trans HSZ5.out hgw.size)
                have HMK6 := Lib.hid (Gr.beside HEM5.out HMK5.out (by decide) hgw)
                clear hz hgz hgw
                refine hK.out _ _ (fun _ _ => ⟨(HB6.out.vr.cell 24).trans o.c24, HB6.out.idb.cell 0, HB6.out.idb.cell 1, HB6.out.idb.cell 2⟩) ?_
                clear hK K
                try simp only [Act.put, List.getElem_toArray, List.getElem_cons_succ, List.getElem_cons_zero, List.setIfInBounds_toArray, List.set_cons_zero, List.set_cons_succ]
                refine Ord.AnyR.ready1 (i := 9) (by kernel_rfl) rfl (fun K hK => ?_)
                go_simp
                have HB7 := Lib.hid (HB6.out.alloc (.cells #[.int .i64 id.a, .int .i64 id.b, .int .u64 (id.c : Int), .slice (some ⟨(w1.heap.size + 1), 0, none⟩) (200 + few) (200 + few)] 81))
                have HSZ7 := Lib.hid (show w1.heap.size ≤ (p6.alloc (.cells #[.int .i64 id.a, .int .i64 id.b, .int .u64 (id.c : Int), .slice (some ⟨(w1.heap.size + 1), 0, none⟩) (200 + few) (200 + few)] 81)).heap.size from Nat.le_trans HSZ6.out (by simp))
                have hI := Src.new kSd p6 ⟨id, ⟨List.replicate (200 + few) (0 : UInt8), some ⟨(w1.heap.size + 1), 0, none⟩, 200 + few⟩⟩ #[.int .i64 id.a, .int .i64 id.b, .int .u64 (id.c : Int), .slice (some ⟨(w1.heap.size + 1), 0, none⟩) (200 + few) (200 + few)] (by show _ = [Value.int .i64 id.a, .int .i64 id.b, .int .u64 (id.c : Int), .slice (some ⟨(w1.heap.size + 1), 0, none⟩) (List.replicate (200 + few) (0 : UInt8)).length (200 + few)]; rw [List.length_replicate])
                have HSRC7 := Lib.hid (show Src kSd (p6.alloc (.cells #[.int .i64 id.a, .int .i64 id.b, .int .u64 (id.c : Int), .slice (some ⟨(w1.heap.size + 1), 0, none⟩) (200 + few) (200 + few)] 81)) (p6.heap.size) ⟨id, ⟨List.replicate (200 + few) (0 : UInt8), some ⟨(w1.heap.size + 1), 0, none⟩, 200 + few⟩⟩ from by have h2 : p6.heap.size = p6.heap.size := (by first | rfl | simp); rw [← h2]; exact hI)
                clear hI
                have HLI7 := Lib.hid (show p6.heap.size < (p6.alloc (.cells #[.int .i64 id.a, .int .i64 id.b, .int .u64 (id.c : Int), .slice (some ⟨(w1.heap.size + 1), 0, none⟩) (200 + few) (200 + few)] 81)).heap.size from by first | (simp; done) | exact Nat.lt_succ_self _)
                have HGZ7 := Lib.hid (HGZ6.out.below ((Below.refl _ p6).alloc (Nat.le_refl _) (.cells #[.int .i64 id.a, .int .i64 id.b, .int .u64 (id.c : Int), .slice (some ⟨(w1.heap.size + 1), 0, none⟩) (200 + few) (200 + few)] 81)))
                have HMK7 := Lib.hid (HMK6.out.below ((Below.refl _ p6).alloc (Nat.le_refl _) (.cells #[.int .i64 id.a, .int .i64 id.b, .int .u64 (id.c : Int), .slice (some ⟨(w1.heap.size + 1), 0, none⟩) (200 + few) (200 + few)] 81)))
                refine hK.out _ _ (fun _ _ => ⟨(HB7.out.vr.cell 24).trans o.c24, HB7.out.idb.cell 0, HB7.out.idb.cell 1, HB7.out.idb.cell 2⟩) ?_
                clear hK K
                try simp only [Act.put, List.getElem_toArray, List.getElem_cons_succ, List.getElem_cons_zero, List.setIfInBounds_toArray, List.set_cons_zero, List.set_cons_succ]
                refine Ord.AnyR.ready1 (i := 10) (by kernel_rfl) rfl (fun K hK => ?_)
                refine step_push1 ki_sd rfl (.tmp 27) (.tmp 33) rfl w1.heap.size z6 HGZ7.out rfl ⟨p6.heap.size, 0, none⟩ 1 1 [⟨id, ⟨List.replicate (200 + few) (0 : UInt8), some ⟨(w1.heap.size + 1), 0, none⟩, 200 + few⟩⟩] rfl rfl (by omega) HSRC7.out.src (by rw [HZ6.out]; simp only [List.length_singleton]; omega) HSZ7.out ?_
                intro z2 w4 hz2 hg2 hgw _
                have HZ2 := Lib.hid (show z2.l = o.hist.l ++ [⟨id, ⟨List.replicate (200 + few) (0 : UInt8), some ⟨(w1.heap.size + 1), 0, none⟩, 200 + few⟩⟩] by rw [hz2, HZ6.out])
                have HG2 := Lib.hid hg2
                have HB4 := Lib.hid (HB7.out.grown hgw fun g eg => by have := (HGZ7.out.lt g eg).1; omega)
                have HMKF := Lib.hid (Gr.beside HGZ7.out HMK7.out (by decide) hgw)
                have kk := (HB4.out.vr.cell 24).trans o.c24
                have kf := HB4.out.vr.frozen 24
                clear hz2 hg2 hgw
                rw [show z2.v = .slice z2.A z2.l.length z2.c from rfl]
                refine hK.out _ _ (fun _ _ => ⟨(HB4.out.vr.cell 24).trans o.c24, HB4.out.idb.cell 0, HB4.out.idb.cell 1, HB4.out.idb.cell 2⟩) ?_
                clear hK K
                try simp only [Act.put, List.getElem_toArray, List.getElem_cons_succ, List.getElem_cons_zero, List.setIfInBounds_toArray, List.set_cons_zero, List.set_cons_succ]
                refine Ord.AnyR.take (i := 11) (v := ?_) rfl (by kernel_rfl) (by kernel_rfl) (by kernel_rfl) (fun _ _ _ h => h) (fun _ _ h => h) (Or.inl ⟨by rfl, ?_⟩) ?_
                rotate_left
                · (intro w; go_simp; try (with_reducible rfl))
                try simp only [Act.put, List.getElem_toArray, List.getElem_cons_succ, List.getElem_cons_zero, List.setIfInBounds_toArray, List.set_cons_zero, List.set_cons_succ]
                refine Ord.AnyR.ready1 (i := 12) (by kernel_rfl) rfl (fun K hK => ?_)
                go_simp
                refine hK.out _ _ (fun h => absurd h (by decide)) ?_
                clear hK K
                try simp only [Act.put, List.getElem_toArray, List.getElem_cons_succ, List.getElem_cons_zero, List.setIfInBounds_toArray, List.set_cons_zero, List.set_cons_succ]
                refine Ord.AnyR.end_ (by kernel_rfl) ?_ _
                go_wp2
                go_meet
                have hz2 := HZ2.out
                have hlz : Lz kSd (Own3 w.heap.size) w4 z2 := HG2.out.lz fun k hk => by have := hk.2; omega
                have hbd : Lz kU8 (Own3 w.heap.size) w4 ⟨List.replicate (200 + few) (0 : UInt8), some ⟨(w1.heap.size + 1), 0, none⟩, 200 + few⟩ := HMKF.out.lz fun k hk => by have := hk.2; omega
                have hl4 := HB4.out.be.lies
                have h1 : z2.l.length = o.hist.l.length + 1 := by rw [hz2, List.length_append]; rfl
                have hle : (List.replicate (200 + few) (0 : UInt8)).length = 200 + few := List.length_replicate
                have h3 : ∀ y ∈ z2.l.map LSd.er, okSd y ∧ y.body.length ≤ 300 := by
                  intro y hy
                  obtain ⟨v, hv, rfl⟩ := List.mem_map.1 hy
                  rw [hz2] at hv
                  rcases List.mem_append.1 hv with h | h
                  · exact ⟨HT.out.ok.hist.2 _ (List.mem_map_of_mem h), HT.out.histB _ (List.mem_map_of_mem h)⟩
                  · rw [List.mem_singleton.1 h]; exact ⟨⟨HID.out, by show (List.replicate (200 + few) (0 : UInt8)).length ≤ 1000000; rw [hle]; omega⟩, by show (List.replicate (200 + few) (0 : UInt8)).length ≤ 300; rw [hle]; omega⟩
                have h4 : (z2.l.map LSd.er).length ≤ 20 := by rw [List.length_map]; omega
                refine ⟨{ o with hist := z2 }, HB4.out.fld 24 (.slice z2.A z2.l.length z2.c) { o with hist := z2 } rfl ⟨hl4.past, hl4.path, hl4.pathB, hl4.body, hl4.refs, hl4.guards, hl4.boxes, hlz, (fun y hy => by rw [hz2] at hy; rcases List.mem_append.1 hy with h | h; exact hl4.histB y h; rw [List.mem_singleton.1 h]; exact hbd)⟩, ?_, ⟨HR.out.up.1, HR.out.up.2.1, HR.out.up.2.2.1, HR.out.up.2.2.2.1, by show z2.l.length ≤ m + 1; omega⟩⟩
                exact { HT.out with hist := h4, histB := (fun y hy => (h3 y hy).2), ok := { HT.out.ok with hist := ⟨Nat.le_trans h4 (by omega), fun y hy => (h3 y hy).1⟩ } }
              · go_simp
                have HB8 := Lib.hid (HB5.out.alloc (.cells #[.int .i64 id.a, .int .i64 id.b, .int .u64 (id.c : Int), .slice (some ⟨(w1.heap.size + 1), 0, none⟩) (200 + few) (200 + few)] 81))
                have HSZ8 := Lib.hid (show w1.heap.size ≤ (m5.alloc (.cells #[.int .i64 id.a, .int .i64 id.b, .int .u64 (id.c : Int), .slice (some ⟨(w1.heap.size + 1), 0, none⟩) (200 + few) (200 + few)] 81)).heap.size from Nat.le_trans HSZ5.out (by simp))
                have hI := Src.new kSd m5 ⟨id, ⟨List.replicate (200 + few) (0 : UInt8), some ⟨(w1.heap.size + 1), 0, none⟩, 200 + few⟩⟩ #[.int .i64 id.a, .int .i64 id.b, .int .u64 (id.c : Int), .slice (some ⟨(w1.heap.size + 1), 0, none⟩) (200 + few) (200 + few)] (by show _ = [Value.int .i64 id.a, .int .i64 id.b, .int .u64 (id.c : Int), .slice (some ⟨(w1.heap.size + 1), 0, none⟩) (List.replicate (200 + few) (0 : UInt8)).length (200 + few)]; rw [List.length_replicate])
                have HSRC8 := Lib.hid (show Src kSd (m5.alloc (.cells #[.int .i64 id.a, .int .i64 id.b, .int .u64 (id.c : Int), .slice (some ⟨(w1.heap.size + 1), 0, none⟩) (200 + few) (200 + few)] 81)) (m5.heap.size) ⟨id, ⟨List.replicate (200 + few) (0 : UInt8), some ⟨(w1.heap.size + 1), 0, none⟩, 200 + few⟩⟩ from by have h2 : m5.heap.size = m5.heap.size := (by first | rfl | simp); rw [← h2]; exact hI)
                clear hI
                have HLI8 := Lib.hid (show m5.heap.size < (m5.alloc (.cells #[.int .i64 id.a, .int .i64 id.b, .int .u64 (id.c : Int), .slice (some ⟨(w1.heap.size + 1), 0, none⟩) (200 + few) (200 + few)] 81)).heap.size from by first | (simp; done) | exact Nat.lt_succ_self _)
                have HEM8 := Lib.hid (HEM5.out.below ((Below.refl _ m5).alloc (Nat.le_refl _) (.cells #[.int .i64 id.a, .int .i64 id.b, .int .u64 (id.c : Int), .slice (some ⟨(w1.heap.size + 1), 0, none⟩) (200 + few) (200 + few)] 81)))
                have HMK8 := Lib.hid (HMK5.out.below ((Below.refl _ m5).alloc (Nat.le_refl _) (.cells #[.int .i64 id.a, .int .i64 id.b, .int .u64 (id.c : Int), .slice (some ⟨(w1.heap.size + 1), 0, none⟩) (200 + few) (200 + few)] 81)))
                have HLE8 := Lib.hid (Nat.lt_of_lt_of_le HLE5.out (show m5.heap.size ≤ (m5.alloc (.cells #[.int .i64 id.a, .int .i64 id.b, .int .u64 (id.c : Int), .slice (some ⟨(w1.heap.size + 1), 0, none⟩) (200 + few) (200 + few)] 81)).heap.size from by simp))
                have HNE8 := Lib.hid (show ¬ m5.heap.size = w1.heap.size from by have h := HLE5.out; have h2 : m5.heap.size = m5.heap.size := (by first | rfl | simp); omega)
                refine hK.out _ _ (fun _ _ => ⟨(HB8.out.vr.cell 24).trans o.c24, HB8.out.idb.cell 0, HB8.out.idb.cell 1, HB8.out.idb.cell 2⟩) ?_
                clear hK K
                try simp only [Act.put, List.getElem_toArray, List.getElem_cons_succ, List.getElem_cons_zero, List.setIfInBounds_toArray, List.set_cons_zero, List.set_cons_succ]
                refine Ord.AnyR.ready1 (i := 3) (by kernel_rfl) rfl (fun K hK => ?_)
                refine step_push_ls ki_sd rfl (.tmp 24) (.tmp 26) rfl w1.heap.size ⟨[], some ⟨w1.heap.size, 0, none⟩, 0⟩ o.hist HEM8.out rfl HB8.out.lies.hist.no rfl (by show 0 + o.hist.l.length ≤ _; omega) HSZ8.out ?_
                intro z9 p9 hz hgz hgw
                have HZ9 := Lib.hid (show z9.l = o.hist.l from hz)
                have HGZ9 := Lib.hid hgz
                have HB9 := Lib.hid (HB8.out.grown hgw fun g eg => by have := (HEM8.out.lt g eg).1; omega)
                have HSZ9 := Lib.hid (show w1.heap.size ≤ p9.heap.size from Nat.le_trans HSZ8.out hgw.size)
                have HSRC9 := Lib.hid (HSRC8.out.bf (F := fun k => k = w1.heap.size) (Bf.grown hgw fun g eg => by injection eg with eg; exact eg.symm) HNE8.out)
                have HMK9 := Lib.hid (Gr.beside HEM8.out HMK8.out (by decide) hgw)
                clear hz hgz hgw
                refine hK.out _ _ (fun _ _ => ⟨(HB9.out.vr.cell 24).trans o.c24, HB9.out.idb.cell 0, HB9.out.idb.cell 1, HB9.out.idb.cell 2⟩) ?_
                clear hK K
                try simp only [Act.put, List.getElem_toArray, List.getElem_cons_succ, List.getElem_cons_zero, List.setIfInBounds_toArray, List.set_cons_zero, List.set_cons_succ]
                refine Ord.AnyR.ready1 (i := 10) (by kernel_rfl) rfl (fun K hK => ?_)
                refine step_push1 ki_sd rfl (.tmp 27) (.tmp 33) rfl w1.heap.size z9 HGZ9.out rfl ⟨m5.heap.size, 0, none⟩ 1 1 [⟨id, ⟨List.replicate (200 + few) (0 : UInt8), some ⟨(w1.heap.size + 1), 0, none⟩, 200 + few⟩⟩] rfl rfl (by omega) HSRC9.out.src (by rw [HZ9.out]; simp only [List.length_singleton]; omega) HSZ9.out ?_
                intro z2 w4 hz2 hg2 hgw _
                have HZ2 := Lib.hid (show z2.l = o.hist.l ++ [⟨id, ⟨List.replicate (200 + few) (0 : UInt8), some ⟨(w1.heap.size + 1), 0, none⟩, 200 + few⟩⟩] by rw [hz2, HZ9.out])
                have HG2 := Lib.hid hg2
                have HB4 := Lib.hid (HB9.out.grown hgw fun g eg => by have := (HGZ9.out.lt g eg).1; omega)
                have HMKF := Lib.hid (Gr.beside HGZ9.out HMK9.out (by decide) hgw)
                have kk := (HB4.out.vr.cell 24).trans o.c24
                have kf := HB4.out.vr.frozen 24
                clear hz2 hg2 hgw
                rw [show z2.v = .slice z2.A z2.l.length z2.c from rfl]
                refine hK.out _ _ (fun _ _ => ⟨(HB4.out.vr.cell 24).trans o.c24, HB4.out.idb.cell 0, HB4.out.idb.cell 1, HB4.out.idb.cell 2⟩) ?_
                clear hK K
                try simp only [Act.put, List.getElem_toArray, List.getElem_cons_succ, List.getElem_cons_zero, List.setIfInBounds_toArray, List.set_cons_zero, List.set_cons_succ]
                refine Ord.AnyR.take (i := 11) (v := ?_) rfl (by kernel_rfl) (by kernel_rfl) (by kernel_rfl) (fun _ _ _ h => h) (fun _ _ h => h) (Or.inl ⟨by rfl, ?_⟩) ?_
                rotate_left
                · (intro w; go_simp; try (with_reducible rfl))
                try simp only [Act.put, List.getElem_toArray, List.getElem_cons_succ, List.getElem_cons_zero, List.setIfInBounds_toArray, List.set_cons_zero, List.set_cons_succ]
                refine Ord.AnyR.ready1 (i := 12) (by kernel_rfl) rfl (fun K hK => ?_)
                go_simp
                refine hK.out _ _ (fun h => absurd h (by decide)) ?_
                clear hK K
                try simp only [Act.put, List.getElem_toArray, List.getElem_cons_succ, List.getElem_cons_zero, List.setIfInBounds_toArray, List.set_cons_zero, List.set_cons_succ]
                refine Ord.AnyR.end_ (by kernel_rfl) ?_ _
                go_wp2
                go_meet
                have hz2 := HZ2.out
                have hlz : Lz kSd (Own3 w.heap.size) w4 z2 := HG2.out.lz fun k hk => by have := hk.2; omega
                have hbd : Lz kU8 (Own3 w.heap.size) w4 ⟨List.replicate (200 + few) (0 : UInt8), some ⟨(w1.heap.size + 1), 0, none⟩, 200 + few⟩ := HMKF.out.lz fun k hk => by have := hk.2; omega
                have hl4 := HB4.out.be.lies
                have h1 : z2.l.length = o.hist.l.length + 1 := by rw [hz2, List.length_append]; rfl
                have hle : (List.replicate (200 + few) (0 : UInt8)).length = 200 + few := List.length_replicate
                have h3 : ∀ y ∈ z2.l.map LSd.er, okSd y ∧ y.body.length ≤ 300 := by
                  intro y hy
                  obtain ⟨v, hv, rfl⟩ := List.mem_map.1 hy
                  rw [hz2] at hv
                  rcases List.mem_append.1 hv with h | h
                  · exact ⟨HT.out.ok.hist.2 _ (List.mem_map_of_mem h), HT.out.histB _ (List.mem_map_of_mem h)⟩
                  · rw [List.mem_singleton.1 h]; exact ⟨⟨HID.out, by show (List.replicate (200 + few) (0 : UInt8)).length ≤ 1000000; rw [hle]; omega⟩, by show (List.replicate (200 + few) (0 : UInt8)).length ≤ 300; rw [hle]; omega⟩
                have h4 : (z2.l.map LSd.er).length ≤ 20 := by rw [List.length_map]; omega
                refine ⟨{ o with hist := z2 }, HB4.out.fld 24 (.slice z2.A z2.l.length z2.c) { o with hist := z2 } rfl ⟨hl4.past, hl4.path, hl4.pathB, hl4.body, hl4.refs, hl4.guards, hl4.boxes, hlz, (fun y hy => by rw [hz2] at hy; rcases List.mem_append.1 hy with h | h; exact hl4.histB y h; rw [List.mem_singleton.1 h]; exact hbd)⟩, ?_, ⟨HR.out.up.1, HR.out.up.2.1, HR.out.up.2.2.1, HR.out.up.2.2.2.1, by show z2.l.length ≤ m + 1; omega⟩⟩
                exact { HT.out with hist := h4, histB := (fun y hy => (h3 y hy).2), ok := { HT.out.ok with hist := ⟨Nat.le_trans h4 (by omega), fun y hy => (h3 y hy).1⟩ } }
          · rw [if_pos (by rfl)]
            refine wp_makeK (K := kU8) (0 : UInt8) Tryz.underlying28 zero_u8 rfl (by decide) (by decide) _ _ rfl w1.heap.size (200 + few) rfl rfl (by omega) HSZ.out ?_
            intro m10 hg hgw
            have HMK10 := Lib.hid (show Gr kU8 w1.heap.size m10 ⟨List.replicate (200 + few) (0 : UInt8), some ⟨w1.heap.size, 0, none⟩, 200 + few⟩ from by have h2 : w1.drew.heap.size = w1.heap.size := (by first | rfl | simp); rw [← h2]; exact hg)
            have HB10 := Lib.hid (HBd.out.grown hgw fun g eg => by cases eg)
            have HSZ10 := Lib.hid (show w1.heap.size ≤ m10.heap.size from Nat.le_trans HSZ.out hgw.size)
            clear hg hgw
            refine hK.out _ _ (fun _ _ => ⟨(HB10.out.vr.cell 24).trans o.c24, HB10.out.idb.cell 0, HB10.out.idb.cell 1, HB10.out.idb.cell 2⟩) ?_
            clear hK K
            try simp only [Act.put, List.getElem_toArray, List.getElem_cons_succ, List.getElem_cons_zero, List.setIfInBounds_toArray, List.set_cons_zero, List.set_cons_succ]
            refine Ord.AnyR.take (i := 8) (v := ?_) rfl (by kernel_rfl) (by kernel_rfl) (by kernel_rfl) (fun _ _ _ h => h) (fun _ _ h => h) (Or.inl ⟨by rfl, ?_⟩) ?_
            rotate_left
            · (intro w; go_simp; try (with_reducible rfl))
            try simp only [Act.put, List.getElem_toArray, List.getElem_cons_succ, List.getElem_cons_zero, List.setIfInBounds_toArray, List.set_cons_zero, List.set_cons_succ]
            refine Ord.AnyR.ready2 (i := 0) (j := 9) (by kernel_rfl) rfl rfl (fun K hK => ?_) (fun K hK => ?_)
            · go_simp
              have HB11 := Lib.hid (HB10.out.alloc (.cells #[] 81))
              have HSZ11 := Lib.hid (show w1.heap.size ≤ (m10.alloc (.cells #[] 81)).heap.size from Nat.le_trans HSZ10.out (by simp))
              have hE := gr_empty0 kSd (B := w1.heap.size) m10 HSZ10.out
              have HEM11 := Lib.hid (show Gr kSd w1.heap.size (m10.alloc (.cells #[] 81)) ⟨[], some ⟨m10.heap.size, 0, none⟩, 0⟩ from hE)
              clear hE
              have HLE11 := Lib.hid (show m10.heap.size < (m10.alloc (.cells #[] 81)).heap.size from by first | (simp; done) | exact Nat.lt_succ_self _)
              have HMK11 := Lib.hid (HMK10.out.below ((Below.refl _ m10).alloc (Nat.le_refl _) (.cells #[] 81)))
              refine hK.out _ _ (fun _ _ => ⟨(HB11.out.vr.cell 24).trans o.c24, HB11.out.idb.cell 0, HB11.out.idb.cell 1, HB11.out.idb.cell 2⟩) ?_
              clear hK K
              try simp only [Act.put, List.getElem_toArray, List.getElem_cons_succ, List.getElem_cons_zero, List.setIfInBounds_toArray, List.set_cons_zero, List.set_cons_succ]
              refine Ord.AnyR.ready2 (i := 3) (j := 9) (by kernel_rfl) rfl rfl (fun K hK => ?_) (fun K hK => ?_)
              · refine step_push_ls ki_sd rfl (.tmp 24) (.tmp 26) rfl w1.heap.size ⟨[], some ⟨m10.heap.size, 0, none⟩, 0⟩ o.hist HEM11.out rfl HB11.out.lies.hist.no rfl (by show 0 + o.hist.l.length ≤ _; omega) HSZ11.out ?_
                intro z12 p12 hz hgz hgw
                have HZ12 := Lib.hid (show z12.l = o.hist.l from hz)
                have HGZ12 := Lib.hid hgz
                have HB12 := Lib.hid (HB11.out.grown hgw fun g eg => by have := (HEM11.out.lt g eg).1; omega)
                have HSZ12 := Lib.hid (show w1.heap.size ≤ p12.heap.size from Nat.le_trans HSZ11.out hgw.size)
                have HMK12 := Lib.hid (Gr.beside HEM11.out HMK11.out (by decide) hgw)
                clear hz hgz hgw
                refine hK.out _ _ (fun _ _ => ⟨(HB12.out.vr.cell 24).trans o.c24, HB12.out.idb.cell 0, HB12.out.idb.cell 1, HB12.out.idb.cell 2⟩) ?_
                clear hK K
                try simp only [Act.put, List.getElem_toArray, List.getElem_cons_succ, List.getElem_cons_zero, List.setIfInBounds_toArray, List.set_cons_zero, List.set_cons_succ]
                refine Ord.AnyR.ready1 (i := 9) (by kernel_rfl) rfl (fun K hK => ?_)
                go_simp
                have HB13 := Lib.hid (HB12.out.alloc (.cells #[.int .i64 id.a, .int .i64 id.b, .int .u64 (id.c : Int), .slice (some ⟨w1.heap.size, 0, none⟩) (200 + few) (200 + few)] 81))
                have HSZ13 := Lib.hid (show w1.heap.size ≤ (p12.alloc (.cells #[.int .i64 id.a, .int .i64 id.b, .int .u64 (id.c : Int), .slice (some ⟨w1.heap.size, 0, none⟩) (200 + few) (200 + few)] 81)).heap.size from Nat.le_trans HSZ12.out (by simp))
                have hI := Src.new kSd p12 ⟨id, ⟨List.replicate (200 + few) (0 : UInt8), some ⟨w1.heap.size, 0, none⟩, 200 + few⟩⟩ #[.int .i64 id.a, .int .i64 id.b, .int .u64 (id.c : Int), .slice (some ⟨w1.heap.size, 0, none⟩) (200 + few) (200 + few)] (by show _ = [Value.int .i64 id.a, .int .i64 id.b, .int .u64 (id.c : Int), .slice (some ⟨w1.heap.size, 0, none⟩) (List.replicate (200 + few) (0 : UInt8)).length (200 + few)]; rw [List.length_replicate])
                have HSRC13 := Lib.hid (show Src kSd (p12.alloc (.cells #[.int .i64 id.a, .int .i64 id.b, .int .u64 (id.c : Int), .slice (some ⟨w1.heap.size, 0, none⟩) (200 + few) (200 + few)] 81)) (p12.heap.size) ⟨id, ⟨List.replicate (200 + few) (0 : UInt8), some ⟨w1.heap.size, 0, none⟩, 200 + few⟩⟩ from by have h2 : p12.heap.size = p12.heap.size := (by first | rfl | simp); rw [← h2]; exact hI)
                clear hI
                have HLI13 := Lib.hid (show p12.heap.size < (p12.alloc (.cells #[.int .i64 id.a, .int .i64 id.b, .int .u64 (id.c : Int), .slice (some ⟨w1.heap.size, 0, none⟩) (200 + few) (200 + few)] 81)).heap.size from by first | (simp; done) | exact Nat.lt_succ_self _)
                have HGZ13 := Lib.hid (HGZ12.out.below ((Below.refl _ p12).alloc (Nat.le_refl _) (.cells #[.int .i64 id.a, .int .i64 id.b, .int .u64 (id.c : Int), .slice (some ⟨w1.heap.size, 0, none⟩) (200 + few) (200 + few)] 81)))
                have HMK13 := Lib.hid (HMK12.out.below ((Below.refl _ p12).alloc (Nat.le_refl _) (.cells #[.int .i64 id.a, .int .i64 id.b, .int .u64 (id.c : Int), .slice (some ⟨w1.heap.size, 0, none⟩) (200 + few) (200 + few)] 81)))
                refine hK.out _ _ (fun _ _ => ⟨(HB13.out.vr.cell 24).trans o.c24, HB13.out.idb.cell 0, HB13.out.idb.cell 1, HB13.out.idb.cell 2⟩) ?_
                clear hK K
                try simp only [Act.put, List.getElem_toArray, List.getElem_cons_succ, List.getElem_cons_zero, List.setIfInBounds_toArray, List.set_cons_zero, List.set_cons_succ]
                refine Ord.AnyR.ready1 (i := 10) (by kernel_rfl) rfl (fun K hK => ?_)
                refine step_push1 ki_sd rfl (.tmp 27) (.tmp 33) rfl w1.heap.size z12 HGZ13.out rfl ⟨p12.heap.size, 0, none⟩ 1 1 [⟨id, ⟨List.replicate (200 + few) (0 : UInt8), some ⟨w1.heap.size, 0, none⟩, 200 + few⟩⟩] rfl rfl (by omega) HSRC13.out.src (by rw [HZ12.out]; simp only [List.length_singleton]; omega) HSZ13.out ?_
                intro z2 w4 hz2 hg2 hgw _
                have HZ2 := Lib.hid (show z2.l = o.hist.l ++ [⟨id, ⟨List.replicate (200 + few) (0 : UInt8), some ⟨w1.heap.size, 0, none⟩, 200 + few⟩⟩] by rw [hz2, HZ12.out])
                have HG2 := Lib.hid hg2
                have HB4 := Lib.hid (HB13.out.grown hgw fun g eg => by have := (HGZ13.out.lt g eg).1; omega)
                have HMKF := Lib.hid (Gr.beside HGZ13.out HMK13.out (by decide) hgw)
                have kk := (HB4.out.vr.cell 24).trans o.c24
                have kf := HB4.out.vr.frozen 24
                clear hz2 hg2 hgw
                rw [show z2.v = .slice z2.A z2.l.length z2.c from rfl]
                refine hK.out _ _ (fun _ _ => ⟨(HB4.out.vr.cell 24).trans o.c24, HB4.out.idb.cell 0, HB4.out.idb.cell 1, HB4.out.idb.cell 2⟩) ?_
                clear hK K
                try simp only [Act.put, List.getElem_toArray, List.getElem_cons_succ, List.getElem_cons_zero, List.setIfInBounds_toArray, List.set_cons_zero, List.set_cons_succ]
                refine Ord.AnyR.take (i := 11) (v := ?_) rfl (by kernel_rfl) (by kernel_rfl) (by kernel_rfl) (fun _ _ _ h => h) (fun _ _ h => h) (Or.inl ⟨by rfl, ?_⟩) ?_
                rotate_left
                · (intro w; go_simp; try (with_reducible rfl))
                try simp only [Act.put, List.getElem_toArray, List.getElem_cons_succ, List.getElem_cons_zero, List.setIfInBounds_toArray, List.set_cons_zero, List.set_cons_succ]
                refine Ord.AnyR.ready1 (i := 12) (by kernel_rfl) rfl (fun K hK => ?_)
                go_simp
                refine hK.out _ _ (fun h => absurd h (by decide)) ?_
                clear hK K
                try simp only [Act.put, List.getElem_toArray, List.getElem_cons_succ, List.getElem_cons_zero, List.setIfInBounds_toArray, List.set_cons_zero, List.set_cons_succ]
                refine Ord.AnyR.end_ (by kernel_rfl) ?_ _
                go_wp2
                go_meet
                have hz2 := HZ2.out
                have hlz : Lz kSd (Own3 w.heap.size) w4 z2 := HG2.out.lz fun k hk => by have := hk.2; omega
                have hbd : Lz kU8 (Own3 w.heap.size) w4 ⟨List.replicate (200 + few) (0 : UInt8), some ⟨w1.heap.size, 0, none⟩, 200 + few⟩ := HMKF.out.lz fun k hk => by have := hk.2; omega
                have hl4 := HB4.out.be.lies
                have h1 : z2.l.length = o.hist.l.length + 1 := by rw [hz2, List.length_append]; rfl
                have hle : (List.replicate (200 + few) (0 : UInt8)).length = 200 + few := List.length_replicate
                have h3 : ∀ y ∈ z2.l.map LSd.er, okSd y ∧ y.body.length ≤ 300 := by
                  intro y hy
                  obtain ⟨v, hv, rfl⟩ := List.mem_map.1 hy
                  rw [hz2] at hv
                  rcases List.mem_append.1 hv with h | h
                  · exact ⟨HT.out.ok.hist.2 _ (List.mem_map_of_mem h), HT.out.histB _ (List.mem_map_of_mem h)⟩
                  · rw [List.mem_singleton.1 h]; exact ⟨⟨HID.out, by show (List.replicate (200 + few) (0 : UInt8)).length ≤ 1000000; rw [hle]; omega⟩, by show (List.replicate (200 + few) (0 : UInt8)).length ≤ 300; rw [hle]; omega⟩
                have h4 : (z2.l.map LSd.er).length ≤ 20 := by rw [List.length_map]; omega
                refine ⟨{ o with hist := z2 }, HB4.out.fld 24 (.slice z2.A z2.l.length z2.c) { o with hist := z2 } rfl ⟨hl4.past, hl4.path, hl4.pathB, hl4.body, hl4.refs, hl4.guards, hl4.boxes, hlz, (fun y hy => by rw [hz2] at hy; rcases List.mem_append.1 hy with h | h; exact hl4.histB y h; rw [List.mem_singleton.1 h]; exact hbd)⟩, ?_, ⟨HR.out.up.1, HR.out.up.2.1, HR.out.up.2.2.1, HR.out.up.2.2.2.1, by show z2.l.length ≤ m + 1; omega⟩⟩
                exact { HT.out with hist := h4, histB := (fun y hy => (h3 y hy).2), ok := { HT.out.ok with hist := ⟨Nat.le_trans h4 (by omega), fun y hy => (h3 y hy).1⟩ } }
              · go_simp
                have HB14 := Lib.hid (HB11.out.alloc (.cells #[.int .i64 id.a, .int .i64 id.b, .int .u64 (id.c : Int), .slice (some ⟨w1.heap.size, 0, none⟩) (200 + few) (200 + few)] 81))
                have HSZ14 := Lib.hid (show w1.heap.size ≤ ((m10.alloc (.cells #[] 81)).alloc (.cells #[.int .i64 id.a, .int .i64 id.b, .int .u64 (id.c : Int), .slice (some ⟨w1.heap.size, 0, none⟩) (200 + few) (200 + few)] 81)).heap.size from Nat.le_trans HSZ11.out (by simp))
                have hI := Src.new kSd (m10.alloc (.cells #[] 81)) ⟨id, ⟨List.replicate (200 + few) (0 : UInt8), some ⟨w1.heap.size, 0, none⟩, 200 + few⟩⟩ #[.int .i64 id.a, .int .i64 id.b, .int .u64 (id.c : Int), .slice (some ⟨w1.heap.size, 0, none⟩) (200 + few) (200 + few)] (by show _ = [Value.int .i64 id.a, .int .i64 id.b, .int .u64 (id.c : Int), .slice (some ⟨w1.heap.size, 0, none⟩) (List.replicate (200 + few) (0 : UInt8)).length (200 + few)]; rw [List.length_replicate])
                have HSRC14 := Lib.hid (show Src kSd ((m10.alloc (.cells #[] 81)).alloc (.cells #[.int .i64 id.a, .int .i64 id.b, .int .u64 (id.c : Int), .slice (some ⟨w1.heap.size, 0, none⟩) (200 + few) (200 + few)] 81)) ((m10.heap.size + 1)) ⟨id, ⟨List.replicate (200 + few) (0 : UInt8), some ⟨w1.heap.size, 0, none⟩, 200 + few⟩⟩ from by have h2 : (m10.alloc (.cells #[] 81)).heap.size = (m10.heap.size + 1) := (by first | rfl | simp); rw [← h2]; exact hI)
                clear hI
                have HLI14 := Lib.hid (show (m10.heap.size + 1) < ((m10.alloc (.cells #[] 81)).alloc (.cells #[.int .i64 id.a, .int .i64 id.b, .int .u64 (id.c : Int), .slice (some ⟨w1.heap.size, 0, none⟩) (200 + few) (200 + few)] 81)).heap.size from by first | (simp; done) | exact Nat.lt_succ_self _)
                have HEM14 := Lib.hid (HEM11.out.below ((Below.refl _ (m10.alloc (.cells #[] 81))).alloc (Nat.le_refl _) (.cells #[.int .i64 id.a, .int .i64 id.b, .int .u64 (id.c : Int), .slice (some ⟨w1.heap.size, 0, none⟩) (200 + few) (200 + few)] 81)))
                have HMK14 := Lib.hid (HMK11.out.below ((Below.refl _ (m10.alloc (.cells #[] 81))).alloc (Nat.le_refl _) (.cells #[.int .i64 id.a, .int .i64 id.b, .int .u64 (id.c : Int), .slice (some ⟨w1.heap.size, 0, none⟩) (200 + few) (200 + few)] 81)))
                have HLE14 := Lib.hid (Nat.lt_of_lt_of_le HLE11.out (show (m10.alloc (.cells #[] 81)).heap.size ≤ ((m10.alloc (.cells #[] 81)).alloc (.cells #[.int .i64 id.a, .int .i64 id.b, .int .u64 (id.c : Int), .slice (some ⟨w1.heap.size, 0, none⟩) (200 + few) (200 + few)] 81)).heap.size from by simp))
                have HNE14 := Lib.hid (show ¬ (m10.heap.size + 1) = m10.heap.size from by have h := HLE11.out; have h2 : (m10.alloc (.cells #[] 81)).heap.size = (m10.heap.size + 1) := (by first | rfl | simp); omega)
                refine hK.out _ _ (fun _ _ => ⟨(HB14.out.vr.cell 24).trans o.c24, HB14.out.idb.cell 0, HB14.out.idb.cell 1, HB14.out.idb.cell 2⟩) ?_
                clear hK K
                try simp only [Act.put, List.getElem_toArray, List.getElem_cons_succ, List.getElem_cons_zero, List.setIfInBounds_toArray, List.set_cons_zero, List.set_cons_succ]
                refine Ord.AnyR.ready1 (i := 3) (by kernel_rfl) rfl (fun K hK => ?_)
                refine step_push_ls ki_sd rfl (.tmp 24) (.tmp 26) rfl w1.heap.size ⟨[], some ⟨m10.heap.size, 0, none⟩, 0⟩ o.hist HEM14.out rfl HB14.out.lies.hist.no rfl (by show 0 + o.hist.l.length ≤ _; omega) HSZ14.out ?_
                intro z15 p15 hz hgz hgw
                have HZ15 := Lib.hid (show z15.l = o.hist.l from hz)
                have HGZ15 := Lib.hid hgz
                have HB15 := Lib.hid (HB14.out.grown hgw fun g eg => by have := (HEM14.out.lt g eg).1; omega)
                have HSZ15 := Lib.hid (show w1.heap.size ≤ p15.heap.size from Nat.le_trans HSZ14.out hgw.size)
                have HSRC15 := Lib.hid (HSRC14.out.bf (F := fun k => k = m10.heap.size) (Bf.grown hgw fun g eg => by injection eg with eg; exact eg.symm) HNE14.out)
                have HMK15 := Lib.hid (Gr.beside HEM14.out HMK14.out (by decide) hgw)
                clear hz hgz hgw
                refine hK.out _ _ (fun _ _ => ⟨(HB15.out.vr.cell 24).trans o.c24, HB15.out.idb.cell 0, HB15.out.idb.cell 1, HB15.out.idb.cell 2⟩) ?_
                clear hK K
                try simp only [Act.put, List.getElem_toArray, List.getElem_cons_succ, List.getElem_cons_zero, List.setIfInBounds_toArray, List.set_cons_zero, List.set_cons_succ]
                refine Ord.AnyR.ready1 (i := 10) (by kernel_rfl) rfl (fun K hK => ?_)
                refine step_push1 ki_sd rfl (.tmp 27) (.tmp 33) rfl w1.heap.size z15 HGZ15.out rfl ⟨(m10.heap.size + 1), 0, none⟩ 1 1 [⟨id, ⟨List.replicate (200 + few) (0 : UInt8), some ⟨w1.heap.size, 0, none⟩, 200 + few⟩⟩] rfl rfl (by omega) HSRC15.out.src (by rw [HZ15.out]; simp only [List.length_singleton]; omega) HSZ15.out ?_
                intro z2 w4 hz2 hg2 hgw _
                have HZ2 := Lib.hid (show z2.l = o.hist.l ++ [⟨id, ⟨List.replicate (200 + few) (0 : UInt8), some ⟨w1.heap.size, 0, none⟩, 200 + few⟩⟩] by rw [hz2, HZ15.out])
                have HG2 := Lib.hid hg2
                have HB4 := Lib.hid (HB15.out.grown hgw fun g eg => by have := (HGZ15.out.lt g eg).1; omega)
                have HMKF := Lib.hid (Gr.beside HGZ15.out HMK15.out (by decide) hgw)
                have kk := (HB4.out.vr.cell 24).trans o.c24
                have kf := HB4.out.vr.frozen 24
                clear hz2 hg2 hgw
                rw [show z2.v = .slice z2.A z2.l.length z2.c from rfl]
                refine hK.out _ _ (fun _ _ => ⟨(HB4.out.vr.cell 24).trans o.c24, HB4.out.idb.cell 0, HB4.out.idb.cell 1, HB4.out.idb.cell 2⟩) ?_
                clear hK K
                try simp only [Act.put, List.getElem_toArray, List.getElem_cons_succ, List.getElem_cons_zero, List.setIfInBounds_toArray, List.set_cons_zero, List.set_cons_succ]
                refine Ord.AnyR.take (i := 11) (v := ?_) rfl (by kernel_rfl) (by kernel_rfl) (by kernel_rfl) (fun _ _ _ h => h) (fun _ _ h => h) (Or.inl ⟨by rfl, ?_⟩) ?_
                rotate_left
                · (intro w; go_simp; try (with_reducible rfl))
                try simp only [Act.put, List.getElem_toArray, List.getElem_cons_succ, List.getElem_cons_zero, List.setIfInBounds_toArray, List.set_cons_zero, List.set_cons_succ]
                refine Ord.AnyR.ready1 (i := 12) (by kernel_rfl) rfl (fun K hK => ?_)
                go_simp
                refine hK.out _ _ (fun h => absurd h (by decide)) ?_
                clear hK K
                try simp only [Act.put, List.getElem_toArray, List.getElem_cons_succ, List.getElem_cons_zero, List.setIfInBounds_toArray, List.set_cons_zero, List.set_cons_succ]
                refine Ord.AnyR.end_ (by kernel_rfl) ?_ _
                go_wp2
                go_meet
                have hz2 := HZ2.out
                have hlz : Lz kSd (Own3 w.heap.size) w4 z2 := HG2.out.lz fun k hk => by have := hk.2; omega
                have hbd : Lz kU8 (Own3 w.heap.size) w4 ⟨List.replicate (200 + few) (0 : UInt8), some ⟨w1.heap.size, 0, none⟩, 200 + few⟩ := HMKF.out.lz fun k hk => by have := hk.2; omega
                have hl4 := HB4.out.be.lies
                have h1 : z2.l.length = o.hist.l.length + 1 := by rw [hz2, List.length_append]; rfl
                have hle : (List.replicate (200 + few) (0 : UInt8)).length = 200 + few := List.length_replicate
                have h3 : ∀ y ∈ z2.l.map LSd.er, okSd y ∧ y.body.length ≤ 300 := by
                  intro y hy
                  obtain ⟨v, hv, rfl⟩ := List.mem_map.1 hy
                  rw [hz2] at hv
                  rcases List.mem_append.1 hv with h | h
                  · exact ⟨HT.out.ok.hist.2 _ (List.mem_map_of_mem h), HT.out.histB _ (List.mem_map_of_mem h)⟩
                  · rw [List.mem_singleton.1 h]; exact ⟨⟨HID.out, by show (List.replicate (200 + few) (0 : UInt8)).length ≤ 1000000; rw [hle]; omega⟩, by show (List.replicate (200 + few) (0 : UInt8)).length ≤ 300; rw [hle]; omega⟩
                have h4 : (z2.l.map LSd.er).length ≤ 20 := by rw [List.length_map]; omega
                refine ⟨{ o with hist := z2 }, HB4.out.fld 24 (.slice z2.A z2.l.length z2.c) { o with hist := z2 } rfl ⟨hl4.past, hl4.path, hl4.pathB, hl4.body, hl4.refs, hl4.guards, hl4.boxes, hlz, (fun y hy => by rw [hz2] at hy; rcases List.mem_append.1 hy with h | h; exact hl4.histB y h; rw [List.mem_singleton.1 h]; exact hbd)⟩, ?_, ⟨HR.out.up.1, HR.out.up.2.1, HR.out.up.2.2.1, HR.out.up.2.2.2.1, by show z2.l.length ≤ m + 1; omega⟩⟩
                exact { HT.out with hist := h4, histB := (fun y hy => (h3 y hy).2), ok := { HT.out.ok with hist := ⟨Nat.le_trans h4 (by omega), fun y hy => (h3 y hy).1⟩ } }
            · go_simp
              have HB16 := Lib.hid (HB10.out.alloc (.cells #[.int .i64 id.a, .int .i64 id.b, .int .u64 (id.c : Int), .slice (some ⟨w1.heap.size, 0, none⟩) (200 + few) (200 + few)] 81))
              have HSZ16 := Lib.hid (show w1.heap.size ≤ (m10.alloc (.cells #[.int .i64 id.a, .int .i64 id.b, .int .u64 (id.c : Int), .slice (some ⟨w1.heap.size, 0, none⟩) (200 + few) (200 + few)] 81)).heap.size from Nat.le_trans HSZ10.out (by simp))
              have hI := Src.new kSd m10 ⟨id, ⟨List.replicate (200 + few) (0 : UInt8), some ⟨w1.heap.size, 0, none⟩, 200 + few⟩⟩ #[.int .i64 id.a, .int .i64 id.b, .int .u64 (id.c : Int), .slice (some ⟨w1.heap.size, 0, none⟩) (200 + few) (200 + few)] (by show _ = [Value.int .i64 id.a, .int .i64 id.b, .int .u64 (id.c : Int), .slice (some ⟨w1.heap.size, 0, none⟩) (List.replicate (200 + few) (0 : UInt8)).length (200 + few)]; rw [List.length_replicate])
              have HSRC16 := Lib.hid (show Src kSd (m10.alloc (.cells #[.int .i64 id.a, .int .i64 id.b, .int .u64 (id.c : Int), .slice (some ⟨w1.heap.size, 0, none⟩) (200 + few) (200 + few)] 81)) (m10.heap.size) ⟨id, ⟨List.replicate (200 + few) (0 : UInt8), some ⟨w1.heap.size, 0, none⟩, 200 + few⟩⟩ from by have h2 : m10.heap.size = m10.heap.size := (by first | rfl | simp); rw [← h2]; exact hI)
              clear hI
              have HLI16 := Lib.hid (show m10.heap.size < (m10.alloc (.cells #[.int .i64 id.a, .int .i64 id.b, .int .u64 (id.c : Int), .slice (some ⟨w1.heap.size, 0, none⟩) (200 + few) (200 + few)] 81)).heap.size from by first | (simp; done) | exact Nat.lt_succ_self _)
              have HMK16 := Lib.hid (HMK10.out.below ((Below.refl _ m10).alloc (Nat.le_refl _) (.cells #[.int .i64 id.a, .int .i64 id.b, .int .u64 (id.c : Int), .slice (some ⟨w1.heap.size, 0, none⟩) (200 + few) (200 + few)] 81)))
              refine hK.out _ _ (fun _ _ => ⟨(HB16.out.vr.cell 24).trans o.c24, HB16.out.idb.cell 0, HB16.out.idb.cell 1, HB16.out.idb.cell 2⟩) ?_
              clear hK K
              try simp only [Act.put, List.getElem_toArray, List.getElem_cons_succ, List.getElem_cons_zero, List.setIfInBounds_toArray, List.set_cons_zero, List.set_cons_succ]
              refine Ord.AnyR.ready1 (i := 0) (by kernel_rfl) rfl (fun K hK => ?_)
              go_simp
              have HB17 := Lib.hid (HB16.out.alloc (.cells #[] 81))
              have HSZ17 := Lib.hid (show w1.heap.size ≤ ((m10.alloc (.cells #[.int .i64 id.a, .int .i64 id.b, .int .u64 (id.c : Int), .slice (some ⟨w1.heap.size, 0, none⟩) (200 + few) (200 + few)] 81)).alloc (.cells #[] 81)).heap.size from Nat.le_trans HSZ16.out (by simp))
              have hE := gr_empty0 kSd (B := w1.heap.size) (m10.alloc (.cells #[.int .i64 id.a, .int .i64 id.b, .int .u64 (id.c : Int), .slice (some ⟨w1.heap.size, 0, none⟩) (200 + few) (200 + few)] 81)) HSZ16.out
              rw [show (m10.alloc (.cells #[.int .i64 id.a, .int .i64 id.b, .int .u64 (id.c : Int), .slice (some ⟨w1.heap.size, 0, none⟩) (200 + few) (200 + few)] 81)).heap.size = (m10.heap.size + 1) from by first | rfl | simp] at hE
              have HEM17 := Lib.hid (show Gr kSd w1.heap.size ((m10.alloc (.cells #[.int .i64 id.a, .int .i64 id.b, .int .u64 (id.c : Int), .slice (some ⟨w1.heap.size, 0, none⟩) (200 + few) (200 + few)] 81)).alloc (.cells #[] 81)) ⟨[], some ⟨(m10.heap.size + 1), 0, none⟩, 0⟩ from hE)
              clear hE
              have HLE17 := Lib.hid (show (m10.heap.size + 1) < ((m10.alloc (.cells #[.int .i64 id.a, .int .i64 id.b, .int .u64 (id.c : Int), .slice (some ⟨w1.heap.size, 0, none⟩) (200 + few) (200 + few)] 81)).alloc (.cells #[] 81)).heap.size from by first | (simp; done) | exact Nat.lt_succ_self _)
              have HSRC17 := Lib.hid (HSRC16.out.bf (F := No) (Bf.alloc (m10.alloc (.cells #[.int .i64 id.a, .int .i64 id.b, .int .u64 (id.c : Int), .slice (some ⟨w1.heap.size, 0, none⟩) (200 + few) (200 + few)] 81)) (.cells #[] 81)) fun h => h)
              have HNE17 := Lib.hid (show ¬ m10.heap.size = (m10.heap.size + 1) from by have h := HLI16.out; have h2 : (m10.alloc (.cells #[.int .i64 id.a, .int .i64 id.b, .int .u64 (id.c : Int), .slice (some ⟨w1.heap.size, 0, none⟩) (200 + few) (200 + few)] 81)).heap.size = (m10.heap.size + 1) := (by first | rfl | simp); omega)
              have HMK17 := Lib.hid (HMK16.out.below ((Below.refl _ (m10.alloc (.cells #[.int .i64 id.a, .int .i64 id.b, .int .u64 (id.c : Int), .slice (some ⟨w1.heap.size, 0, none⟩) (200 + few) (200 + few)] 81))).alloc (Nat.le_refl _) (.cells #[] 81)))
              refine hK.out _ _ (fun _ _ => ⟨(HB17.out.vr.cell 24).trans o.c24, HB17.out.idb.cell 0, HB17.out.idb.cell 1, HB17.out.idb.cell 2⟩) ?_
              clear hK K
              try simp only [Act.put, List.getElem_toArray, List.getElem_cons_succ, List.getElem_cons_zero, List.setIfInBounds_toArray, List.set_cons_zero, List.set_cons_succ]
              refine Ord.AnyR.ready1 (i := 3) (by kernel_rfl) rfl (fun K hK => ?_)
              refine step_push_ls ki_sd rfl (.tmp 24) (.tmp 26) rfl w1.heap.size ⟨[], some ⟨(m10.heap.size + 1), 0, none⟩, 0⟩ o.hist HEM17.out rfl HB17.out.lies.hist.no rfl (by show 0 + o.hist.l.length ≤ _; omega) HSZ17.out ?_
              intro z18 p18 hz hgz hgw
              have HZ18 := Lib.hid (show z18.l = o.hist.l from hz)
              have HGZ18 := Lib.hid hgz
              have HB18 := Lib.hid (HB17.out.grown hgw fun g eg => by have := (HEM17.out.lt g eg).1; omega)
              have HSZ18 := Lib.hid (show w1.heap.size ≤ p18.heap.size from Nat.le_trans HSZ17.out hgw.size)
              have HSRC18 := Lib.hid (HSRC17.out.bf (F := fun k => k = (m10.heap.size + 1)) (Bf.grown hgw fun g eg => by injection eg with eg; exact eg.symm) HNE17.out)
              have HMK18 := Lib.hid (Gr.beside HEM17.out HMK17.out (by decide) hgw)
              clear hz hgz hgw
              refine hK.out _ _ (fun _ _ => ⟨(HB18.out.vr.cell 24).trans o.c24, HB18.out.idb.cell 0, HB18.out.idb.cell 1, HB18.out.idb.cell 2⟩) ?_
              clear hK K
              try simp only [Act.put, List.getElem_toArray, List.getElem_cons_succ, List.getElem_cons_zero, List.setIfInBounds_toArray, List.set_cons_zero, List.set_cons_succ]
              refine Ord.AnyR.ready1 (i := 10) (by kernel_rfl) rfl (fun K hK => ?_)
              refine step_push1 ki_sd rfl (.tmp 27) (.tmp 33) rfl w1.heap.size z18 HGZ18.out rfl ⟨m10.heap.size, 0, none⟩ 1 1 [⟨id, ⟨List.replicate (200 + few) (0 : UInt8), some ⟨w1.heap.size, 0, none⟩, 200 + few⟩⟩] rfl rfl (by omega) HSRC18.out.src (by rw [HZ18.out]; simp only [List.length_singleton]; omega) HSZ18.out ?_
              intro z2 w4 hz2 hg2 hgw _
              have HZ2 := Lib.hid (show z2.l = o.hist.l ++ [⟨id, ⟨List.replicate (200 + few) (0 : UInt8), some ⟨w1.heap.size, 0, none⟩, 200 + few⟩⟩] by rw [hz2, HZ18.out])
              have HG2 := Lib.hid hg2
              have HB4 := Lib.hid (HB18.out.grown hgw fun g eg => by have := (HGZ18.out.lt g eg).1; omega)
              have HMKF := Lib.hid (Gr.beside HGZ18.out HMK18.out (by decide) hgw)
              have kk := (HB4.out.vr.cell 24).trans o.c24
              have kf := HB4.out.vr.frozen 24
              clear hz2 hg2 hgw
              rw [show z2.v = .slice z2.A z2.l.length z2.c from rfl]
              refine hK.out _ _ (fun _ _ => ⟨(HB4.out.vr.cell 24).trans o.c24, HB4.out.idb.cell 0, HB4.out.idb.cell 1, HB4.out.idb.cell 2⟩) ?_
              clear hK K
              try simp only [Act.put, List.getElem_toArray, List.getElem_cons_succ, List.getElem_cons_zero, List.setIfInBounds_toArray, List.set_cons_zero, List.set_cons_succ]
              refine Ord.AnyR.take (i := 11) (v := ?_) rfl (by kernel_rfl) (by kernel_rfl) (by kernel_rfl) (fun _ _ _ h => h) (fun _ _ h => h) (Or.inl ⟨by rfl, ?_⟩) ?_
              rotate_left
              · (intro w; go_simp; try (with_reducible rfl))
              try simp only [Act.put, List.getElem_toArray, List.getElem_cons_succ, List.getElem_cons_zero, List.setIfInBounds_toArray, List.set_cons_zero, List.set_cons_succ]
              refine Ord.AnyR.ready1 (i := 12) (by kernel_rfl) rfl (fun K hK => ?_)
              go_simp
              refine hK.out _ _ (fun h => absurd h (by decide)) ?_
              clear hK K
              try simp only [Act.put, List.getElem_toArray, List.getElem_cons_succ, List.getElem_cons_zero, List.setIfInBounds_toArray, List.set_cons_zero, List.set_cons_succ]
              refine Ord.AnyR.end_ (by kernel_rfl) ?_ _
              go_wp2
              go_meet
              have hz2 := HZ2.out
              have hlz : Lz kSd (Own3 w.heap.size) w4 z2 := HG2.out.lz fun k hk => by have := hk.2; omega
              have hbd : Lz kU8 (Own3 w.heap.size) w4 ⟨List.replicate (200 + few) (0 : UInt8), some ⟨w1.heap.size, 0, none⟩, 200 + few⟩ := HMKF.out.lz fun k hk => by have := hk.2; omega
              have hl4 := HB4.out.be.lies
              have h1 : z2.l.length = o.hist.l.length + 1 := by rw [hz2, List.length_append]; rfl
              have hle : (List.replicate (200 + few) (0 : UInt8)).length = 200 + few := List.length_replicate
              have h3 : ∀ y ∈ z2.l.map LSd.er, okSd y ∧ y.body.length ≤ 300 := by
                intro y hy
                obtain ⟨v, hv, rfl⟩ := List.mem_map.1 hy
                rw [hz2] at hv
                rcases List.mem_append.1 hv with h | h
                · exact ⟨HT.out.ok.hist.2 _ (List.mem_map_of_mem h), HT.out.histB _ (List.mem_map_of_mem h)⟩
                · rw [List.mem_singleton.1 h]; exact ⟨⟨HID.out, by show (List.replicate (200 + few) (0 : UInt8)).length ≤ 1000000; rw [hle]; omega⟩, by show (List.replicate (200 + few) (0 : UInt8)).length ≤ 300; rw [hle]; omega⟩
              have h4 : (z2.l.map LSd.er).length ≤ 20 := by rw [List.length_map]; omega
              refine ⟨{ o with hist := z2 }, HB4.out.fld 24 (.slice z2.A z2.l.length z2.c) { o with hist := z2 } rfl ⟨hl4.past, hl4.path, hl4.pathB, hl4.body, hl4.refs, hl4.guards, hl4.boxes, hlz, (fun y hy => by rw [hz2] at hy; rcases List.mem_append.1 hy with h | h; exact hl4.histB y h; rw [List.mem_singleton.1 h]; exact hbd)⟩, ?_, ⟨HR.out.up.1, HR.out.up.2.1, HR.out.up.2.2.1, HR.out.up.2.2.2.1, by show z2.l.length ≤ m + 1; omega⟩⟩
              exact { HT.out with hist := h4, histB := (fun y hy => (h3 y hy).2), ok := { HT.out.ok with hist := ⟨Nat.le_trans h4 (by omega), fun y hy => (h3 y hy).1⟩ } }
    case rest =>
      obtain ⟨o', hbe, ht', hr'⟩ := hcut
      obtain ⟨w3, rfl⟩ : ∃ w3, w3 = wc := ⟨_, rfl⟩
      have HBE := Lib.hid hbe
      have HT' := Lib.hid ht'
      have HR' := Lib.hid hr'
      clear hbe ht' hr'
      go_wp2_with (first | (refine wpList_load_op rfl _ rfl rfl HBE.out.vr ?_) | (refine wpList_store_op (o' := o') rfl _ _ rfl rfl rfl HBE.out.res ?_))
      refine bodyPost_ret (v := o'.v) (results_op rfl rfl _ rfl (HBE.out.res.setRow o')) rfl ?_
      obtain ⟨hf1, hf2⟩ := HBE.out.fin rfl
      exact ⟨o', rfl, hf1, HT'.out, HR'.out, hf2⟩
end Ot
end Go.Proofs.YtkicjjcangkneaaGreatDoor
