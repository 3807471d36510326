/-
  An operation made of numbers: the reference's, up to its kind's own fields. No condition.
-/
import Derived.Test.YtkicjjcangkneaaGreatDoorOts
import Derived.Deep.DeepCutAuto
namespace Go.Proofs.YtkicjjcangkneaaGreatDoor
open Go.RowKit
attribute [local go_sem ↓] Go.wp_at_zero Go.wp_at_succ
set_option maxRecDepth 100000
namespace Ot
/-- The making of an operation: V is its variable, T the numbers, all lists lie behind block n. -/
structure Mk (E n T V : Nat) (w W : World) (xs : List Int) (i : Nat) (o : LOp) : Prop where
  vr : Vr W V o
  lies : Lies (Til n) W o
  tk : Tk T W xs i
  bel : Below E w W
  ord : E < T ∧ T < V ∧ V < n ∧ n ≤ W.heap.size
  res : Vr W E LOp.zero
theorem Mk.tn {E n T V : Nat} {w W W' : World} {xs : List Int} {i j : Nat} {o : LOp} (h : Mk E n T V w W xs i o) (k : Tn T W W' xs j) : Mk E n T V w W' xs j o := by
  obtain ⟨h1, h2, h3, h4⟩ := h.ord
  have hs := k.2.size
  exact ⟨blk_grown h.vr k.2 fun eg => by injection eg with eg; omega, h.lies.bf (Bf.grown k.2 fun g eg => by injection eg with eg; show g < n; omega), k.1, h.bel.grown k.2 (by have := h.vr; have := Blk.lt this; omega) fun g eg => by injection eg with eg; omega, ⟨h1, h2, h3, by omega⟩, blk_grown h.res k.2 fun eg => by injection eg with eg; omega⟩
/-- A field is written. -/
theorem Mk.put {E n T V : Nat} {w W W' : World} {xs : List Int} {i : Nat} {o o' : LOp} (h : Mk E n T V w W xs i o) (hg : W.grownBy W' (some V)) (hv : Vr W' V o') (hl : Lies (Til n) W o') : Mk E n T V w W' xs i o' := by
  obtain ⟨h1, h2, h3, h4⟩ := h.ord
  have hs := hg.size
  exact ⟨hv, hl.bf (Bf.grown hg fun g eg => by injection eg with eg; show g < n; omega), h.tk.bf (F := fun k => k = V) (Bf.grown hg fun g eg => by injection eg with eg; exact eg.symm) (fun k hk => by omega), h.bel.grown hg (by have := Blk.lt h.vr; omega) fun g eg => by injection eg with eg; omega, ⟨h1, h2, h3, by omega⟩, blk_grown h.res hg fun eg => by injection eg with eg; omega⟩
theorem Mk.below {E n T V : Nat} {w W W' : World} {xs : List Int} {i : Nat} {o : LOp} (h : Mk E n T V w W xs i o) (hb : Below W.heap.size W W') : Mk E n T V w W' xs i o := by
  obtain ⟨h1, h2, h3, h4⟩ := h.ord
  exact ⟨h.vr.below hb (Blk.lt h.vr), h.lies.below hb, h.tk.below hb, h.bel.trans (hb.mono (by omega)), ⟨h1, h2, h3, by have := hb.size; omega⟩, h.res.below hb (Blk.lt h.res)⟩
theorem Mk.alloc {E n T V : Nat} {w W : World} {xs : List Int} {i : Nat} {o : LOp} (h : Mk E n T V w W xs i o) (x : Obj) : Mk E n T V w (W.alloc x) xs i o := h.below ((Below.refl _ W).alloc (Nat.le_refl _) _)
/-- A row of one's own grows, behind block n. -/
theorem Mk.row {E n T V : Nat} {w W W' : World} {xs : List Int} {i : Nat} {o o' : LOp} {row : Option Nat} (h : Mk E n T V w W xs i o) (hg : W.grownBy W' row) (hr : ∀ g, row = some g → n ≤ g) (hv : ∀ {W}, Vr W V o → Vr W V o') (hl : Lies (Til n) W' o') : Mk E n T V w W' xs i o' := by
  obtain ⟨h1, h2, h3, h4⟩ := h.ord
  have hs := hg.size
  exact ⟨hv (blk_grown h.vr hg fun eg => by have := hr V eg.symm; omega), hl, h.tk.bf (F := fun k => n ≤ k) (Bf.grown hg fun g eg => hr g eg) (fun k hk => by omega), h.bel.grown hg (by have := Blk.lt h.vr; omega) fun g eg => by have := hr g eg; omega, ⟨h1, h2, h3, by omega⟩, blk_grown h.res hg fun eg => by have := hr E eg.symm; omega⟩
/-- A row of one's own grew behind block n, and the variable was written. -/
theorem Mk.step {E n T V : Nat} {w W W' : World} {xs : List Int} {i : Nat} {o o' : LOp} (h : Mk E n T V w W xs i o) (hb : Bf (fun k => k = V ∨ n ≤ k) W W') (hv : Vr W' V o') (hl : Lies (Til n) W' o') : Mk E n T V w W' xs i o' := by
  obtain ⟨h1, h2, h3, h4⟩ := h.ord
  have hs := hb.size
  refine ⟨hv, hl, h.tk.bf hb fun k hk => ?_, h.bel.trans (hb.dn (by omega) fun k hk => ?_), ⟨h1, h2, h3, by omega⟩, h.res.bf hb fun hk => ?_⟩
  · rcases hk with hk | hk <;> omega
  · rcases hk with hk | hk <;> omega
  · rcases hk with hk | hk <;> omega
theorem Lies.past_ {F : Nat → Prop} {w : World} {o : LOp} (h : Lies F w o) {x : Ls Pk.Nm} (hx : Lz kNm F w x) : Lies F w { o with past := x } := ⟨hx, h.path, h.pathB, h.body, h.refs, h.guards, h.boxes, h.hist, h.histB⟩
theorem Lies.plain {F : Nat → Prop} {w : World} {o : LOp} (h : Lies F w o) (a b c d e f g i j k : Int) (ep of_ : Pk.Nm) (p r s : Nat) : Lies F w { o with by_ := a, seq := b, kind := c, at_ := d, dev := e, old := f, mem := g, role := i, n := j, need := k, epoch := ep, of_ := of_, pub := p, r := r, s := s } := ⟨h.past, h.path, h.pathB, h.body, h.refs, h.guards, h.boxes, h.hist, h.histB⟩
theorem wpList_build_four {ops : Array Oper} {rest : List Oper} {op : Oper} {a : Act} {w : World} {Q : Exit → Act → World → Prop} (hgd : op.guard = none) (x2 x0 x1 x3 : Operand) (ho : op.op = .build 35 #[(2, x2), (0, x0), (1, x1), (3, x3)])
    {k b s t : Int} (h2 : a.eval x2 = .int .i64 k) (h0 : a.eval x0 = .int .i64 b) (h1 : a.eval x1 = .int .i64 s) (h3 : a.eval x3 = .int .i64 t)
    (h : wpList Tryz.prog ops Q rest (a.put op.dst { LOp.zero with kind := k, by_ := b, seq := s, at_ := t }.v) w) : wpList Tryz.prog ops Q (op :: rest) a w := by
  have hz : Tryz.prog.built 35 [(2, .int .i64 k), (0, .int .i64 b), (1, .int .i64 s), (3, .int .i64 t)] = some { LOp.zero with kind := k, by_ := b, seq := s, at_ := t }.cells := by kernel_rfl
  refine wpList_build hgd 35 _ ho (by simp [h0, h1, h2, h3, hz]) ?_
  simpa [h0, h1, h2, h3, hz, LOp.v] using h

/-- What the names of an operation that was made are. -/
structure PastOk (o o' : LOp) : Prop where
  eq : o' = { o with past := o'.past }
  none_ : o.kind = 1 → o'.past.l = []
  some_ : o.kind ≠ 1 → 0 < o'.past.l.length
  few : o'.past.l.length ≤ 3
  good : ∀ y ∈ o'.past.l, GNm y
  row : o'.past.l.Pairwise (fun a b => nmLess a b = true)


/-! ### what may lie where -/
/-- Before block n, or from B on. -/
def Fr (n B k : Nat) : Prop := k < n ∨ B ≤ k
theorem Lz.fr {α : Type} {K : Kd α} {n : Nat} {w : World} {x : Ls α} (h : Lz K (Til n) w x) {B : Nat} (hB : w.heap.size ≤ B) : Lz K (Fr n B) w x := h.weak fun k hk hf => by
  rcases hf with hf | hf
  · exact hf
  · omega
theorem Lies.fr {n : Nat} {w : World} {o : LOp} (h : Lies (Til n) w o) {B : Nat} (hB : w.heap.size ≤ B) : Lies (Fr n B) w o := h.weak fun k hk hf => by
  rcases hf with hf | hf
  · exact hf
  · omega
theorem Lies.til {n B : Nat} {w : World} {o : LOp} (h : Lies (Fr n B) w o) : Lies (Til n) w o := h.weak fun _ _ hf => .inl hf
theorem Bf.drew {F : Nat → Prop} (w : World) : Bf F w w.drew := ⟨rfl, rfl, rfl, Nat.le_refl _, fun _ _ _ => rfl⟩
theorem Mk.drew {E n T V : Nat} {w W : World} {xs : List Int} {i : Nat} {o : LOp} (h : Mk E n T V w W xs i o) : Mk E n T V w W.drew xs i o :=
  h.step (Bf.drew W) (h.vr.bf (F := No) (Bf.drew W) fun h => h) (h.lies.bf (Bf.drew W))
/-- One cell is written. -/
theorem Mk.fld {E n T V : Nat} {w W : World} {xs : List Int} {i : Nat} {o : LOp} (h : Mk E n T V w W xs i o) (j : Nat) (u : Value) (o' : LOp) (e : o.cells.setIfInBounds j u = o'.cells) (hl : Lies (Til n) W o') : Mk E n T V w (W.setCell ⟨V, j, none⟩ u) xs i o' :=
  h.put (only_set (only_refl W (some V)) j u) (Vr.set h.vr j u o' e) hl
theorem step_bf {α : Type} {K : Kd α} {B n V : Nat} {W w1 : World} {x : Ls α} {j : Nat} {u : Value} (hgr : Gr K B W x) (hnB : n ≤ B) (hg : W.grownBy w1 x.v.ownBlock) : Bf (fun k => k = V ∨ n ≤ k) W (w1.setCell ⟨V, j, none⟩ u) :=
  (Bf.grown hg fun g eg => .inr (by have h5 := (hgr.lt g eg).1; omega)).trans (Bf.set w1 (.inl rfl))
theorem step_fr {α : Type} {K : Kd α} {B n V : Nat} {W w1 : World} {x : Ls α} {j : Nat} {u : Value} (hgr : Gr K B W x) (hV : V < n) (hg : W.grownBy w1 x.v.ownBlock) : Bf (Fr n B) W (w1.setCell ⟨V, j, none⟩ u) :=
  (Bf.grown hg fun g eg => .inr (hgr.lt g eg).1).trans (Bf.set w1 (.inl hV))
theorem step_own {α : Type} {n V : Nat} {W w1 : World} {x : Ls α} {j : Nat} {u : Value} (hV : V < n) (hg : W.grownBy w1 x.v.ownBlock) : Bf (fun k => k < n ∨ x.v.ownBlock = some k) W (w1.setCell ⟨V, j, none⟩ u) :=
  (Bf.grown hg fun _ eg => .inr eg).trans (Bf.set w1 (.inl hV))
theorem step_in {α β : Type} {K : Kd β} {n V : Nat} {W w1 : World} {x z : Ls α} {j : Nat} {u : Value} {y : Ls β} (hV : V < n) (hg : W.grownBy w1 x.v.ownBlock) (hlie : ∀ k, z.v.ownBlock = some k → x.v.ownBlock = some k ∨ W.heap.size ≤ k)
    (h : Lz K (fun k => k < n ∨ x.v.ownBlock = some k) W y) : Lz K (fun k => k < n ∨ z.v.ownBlock = some k) (w1.setCell ⟨V, j, none⟩ u) y :=
  h.step (step_own hV hg) fun k hk hf => by
    rcases hf with hf | hf
    · exact .inl hf
    · rcases hlie k hf with h1 | h1
      · exact .inr h1
      · omega

theorem Mk.path_step {E n T V B : Nat} {w W w1 : World} {xs : List Int} {i : Nat} {o : LOp} {x z : Ls LNd} {y : LNd} (hmk : Mk E n T V w W xs i { o with path := x }) (hl : Lies (Fr n B) W o) (hgr : Gr kNd B W x) (hnB : n ≤ B)
    (hnst : ∀ y ∈ x.l, Lz kBx (fun k => k < n ∨ x.v.ownBlock = some k) W y.boxes) (hy : Lz kBx (fun k => k < n ∨ x.v.ownBlock = some k) W y.boxes) (hBW : B ≤ W.heap.size)
    (hz : z.l = x.l ++ [y]) (hgz : Gr kNd B w1 z) (hgw : W.grownBy w1 x.v.ownBlock) (hlie : ∀ k, z.v.ownBlock = some k → x.v.ownBlock = some k ∨ W.heap.size ≤ k) :
    Mk E n T V w (w1.setCell ⟨V, 9, none⟩ z.v) xs i { o with path := z } ∧ Lies (Fr n B) (w1.setCell ⟨V, 9, none⟩ z.v) o ∧ Gr kNd B (w1.setCell ⟨V, 9, none⟩ z.v) z ∧ (∀ y ∈ z.l, Lz kBx (fun k => k < n ∨ z.v.ownBlock = some k) (w1.setCell ⟨V, 9, none⟩ z.v) y.boxes) ∧ B ≤ (w1.setCell ⟨V, 9, none⟩ z.v).heap.size := by
  obtain ⟨h1, h2, h3, h4⟩ := hmk.ord
  have hl' := hl.bf (step_fr (j := 9) (u := z.v) hgr h3 hgw)
  have hgz' : Gr kNd B (w1.setCell ⟨V, 9, none⟩ z.v) z := hgz.bf (F := fun k => k = V) (Bf.set w1 rfl) fun k hk => by omega
  have hn : ∀ y ∈ z.l, Lz kBx (fun k => k < n ∨ z.v.ownBlock = some k) (w1.setCell ⟨V, 9, none⟩ z.v) y.boxes := by
    intro y' hy'
    rw [hz] at hy'
    rcases List.mem_append.1 hy' with h5 | h5
    · exact step_in h3 hgw hlie (hnst y' h5)
    · rw [List.mem_singleton.1 h5]; exact step_in h3 hgw hlie hy
  have hbf := step_bf (V := V) (j := 9) (u := z.v) hgr hnB hgw
  have hv : Vr (w1.setCell ⟨V, 9, none⟩ z.v) V { o with path := z } := Vr.set (o := { o with path := x }) (blk_grown hmk.vr hgw (fun eg => by have h5 := (hgr.lt V eg.symm).1; omega)) 9 _ { o with path := z } rfl
  have L := hl'.til
  have hp := hgz'.lz (F := Til n) fun k hk => by have hk : k < n := hk; omega
  exact ⟨hmk.step hbf hv ⟨L.past, hp, fun y' hy' => (hn y' hy').weak fun k _ hk => .inl hk, L.body, L.refs, L.guards, L.boxes, L.hist, L.histB⟩, hl', hgz', hn, Nat.le_trans hBW hbf.size⟩
theorem Mk.hist_step {E n T V B : Nat} {w W w1 : World} {xs : List Int} {i : Nat} {o : LOp} {x z : Ls LSd} {y : LSd} (hmk : Mk E n T V w W xs i { o with hist := x }) (hl : Lies (Fr n B) W o) (hgr : Gr kSd B W x) (hnB : n ≤ B)
    (hnst : ∀ y ∈ x.l, Lz kU8 (fun k => k < n ∨ x.v.ownBlock = some k) W y.body) (hy : Lz kU8 (fun k => k < n ∨ x.v.ownBlock = some k) W y.body) (hBW : B ≤ W.heap.size)
    (hz : z.l = x.l ++ [y]) (hgz : Gr kSd B w1 z) (hgw : W.grownBy w1 x.v.ownBlock) (hlie : ∀ k, z.v.ownBlock = some k → x.v.ownBlock = some k ∨ W.heap.size ≤ k) :
    Mk E n T V w (w1.setCell ⟨V, 24, none⟩ z.v) xs i { o with hist := z } ∧ Lies (Fr n B) (w1.setCell ⟨V, 24, none⟩ z.v) o ∧ Gr kSd B (w1.setCell ⟨V, 24, none⟩ z.v) z ∧ (∀ y ∈ z.l, Lz kU8 (fun k => k < n ∨ z.v.ownBlock = some k) (w1.setCell ⟨V, 24, none⟩ z.v) y.body) ∧ B ≤ (w1.setCell ⟨V, 24, none⟩ z.v).heap.size := by
  obtain ⟨h1, h2, h3, h4⟩ := hmk.ord
  have hl' := hl.bf (step_fr (j := 24) (u := z.v) hgr h3 hgw)
  have hgz' : Gr kSd B (w1.setCell ⟨V, 24, none⟩ z.v) z := hgz.bf (F := fun k => k = V) (Bf.set w1 rfl) fun k hk => by omega
  have hn : ∀ y ∈ z.l, Lz kU8 (fun k => k < n ∨ z.v.ownBlock = some k) (w1.setCell ⟨V, 24, none⟩ z.v) y.body := by
    intro y' hy'
    rw [hz] at hy'
    rcases List.mem_append.1 hy' with h5 | h5
    · exact step_in h3 hgw hlie (hnst y' h5)
    · rw [List.mem_singleton.1 h5]; exact step_in h3 hgw hlie hy
  have hbf := step_bf (V := V) (j := 24) (u := z.v) hgr hnB hgw
  have hv : Vr (w1.setCell ⟨V, 24, none⟩ z.v) V { o with hist := z } := Vr.set (o := { o with hist := x }) (blk_grown hmk.vr hgw (fun eg => by have h5 := (hgr.lt V eg.symm).1; omega)) 24 _ { o with hist := z } rfl
  have L := hl'.til
  have hp := hgz'.lz (F := Til n) fun k hk => by have hk : k < n := hk; omega
  exact ⟨hmk.step hbf hv ⟨L.past, L.path, L.pathB, L.body, L.refs, L.guards, L.boxes, hp, fun y' hy' => (hn y' hy').weak fun k _ hk => .inl hk⟩, hl', hgz', hn, Nat.le_trans hBW hbf.size⟩
theorem Mk.refs_step {E n T V B : Nat} {w W w1 : World} {xs : List Int} {i : Nat} {o : LOp} {x z : Ls Nat} (hmk : Mk E n T V w W xs i { o with refs := x }) (hl : Lies (Fr n B) W o) (hgr : Gr kU64 B W x) (hnB : n ≤ B) (hBW : B ≤ W.heap.size)
    (hgz : Gr kU64 B w1 z) (hgw : W.grownBy w1 x.v.ownBlock) :
    Mk E n T V w (w1.setCell ⟨V, 15, none⟩ z.v) xs i { o with refs := z } ∧ Lies (Fr n B) (w1.setCell ⟨V, 15, none⟩ z.v) o ∧ Gr kU64 B (w1.setCell ⟨V, 15, none⟩ z.v) z ∧ B ≤ (w1.setCell ⟨V, 15, none⟩ z.v).heap.size := by
  obtain ⟨h1, h2, h3, h4⟩ := hmk.ord
  have hl' := hl.bf (step_fr (j := 15) (u := z.v) hgr h3 hgw)
  have hgz' : Gr kU64 B (w1.setCell ⟨V, 15, none⟩ z.v) z := hgz.bf (F := fun k => k = V) (Bf.set w1 rfl) fun k hk => by omega
  have hbf := step_bf (V := V) (j := 15) (u := z.v) hgr hnB hgw
  have hv : Vr (w1.setCell ⟨V, 15, none⟩ z.v) V { o with refs := z } := Vr.set (o := { o with refs := x }) (blk_grown hmk.vr hgw (fun eg => by have h5 := (hgr.lt V eg.symm).1; omega)) 15 _ { o with refs := z } rfl
  have L := hl'.til
  have hp := hgz'.lz (F := Til n) fun k hk => by have hk : k < n := hk; omega
  exact ⟨hmk.step hbf hv ⟨L.past, L.path, L.pathB, L.body, hp, L.guards, L.boxes, L.hist, L.histB⟩, hl', hgz', Nat.le_trans hBW hbf.size⟩
theorem Mk.guards_step {E n T V B : Nat} {w W w1 : World} {xs : List Int} {i : Nat} {o : LOp} {x z : Ls Int} (hmk : Mk E n T V w W xs i { o with guards := x }) (hl : Lies (Fr n B) W o) (hgr : Gr kInt B W x) (hnB : n ≤ B) (hBW : B ≤ W.heap.size)
    (hgz : Gr kInt B w1 z) (hgw : W.grownBy w1 x.v.ownBlock) :
    Mk E n T V w (w1.setCell ⟨V, 19, none⟩ z.v) xs i { o with guards := z } ∧ Lies (Fr n B) (w1.setCell ⟨V, 19, none⟩ z.v) o ∧ Gr kInt B (w1.setCell ⟨V, 19, none⟩ z.v) z ∧ B ≤ (w1.setCell ⟨V, 19, none⟩ z.v).heap.size := by
  obtain ⟨h1, h2, h3, h4⟩ := hmk.ord
  have hl' := hl.bf (step_fr (j := 19) (u := z.v) hgr h3 hgw)
  have hgz' : Gr kInt B (w1.setCell ⟨V, 19, none⟩ z.v) z := hgz.bf (F := fun k => k = V) (Bf.set w1 rfl) fun k hk => by omega
  have hbf := step_bf (V := V) (j := 19) (u := z.v) hgr hnB hgw
  have hv : Vr (w1.setCell ⟨V, 19, none⟩ z.v) V { o with guards := z } := Vr.set (o := { o with guards := x }) (blk_grown hmk.vr hgw (fun eg => by have h5 := (hgr.lt V eg.symm).1; omega)) 19 _ { o with guards := z } rfl
  have L := hl'.til
  have hp := hgz'.lz (F := Til n) fun k hk => by have hk : k < n := hk; omega
  exact ⟨hmk.step hbf hv ⟨L.past, L.path, L.pathB, L.body, L.refs, hp, L.boxes, L.hist, L.histB⟩, hl', hgz', Nat.le_trans hBW hbf.size⟩
/-- An append that is one step of a region which draws its order. -/
theorem step_push1 {α : Type} {K : Kd α} {P : Program} {T : Nat} (hK : Nonempty (KI P K T)) {ops : Array Oper} {o : Oper} {a : Act} {G : Act → World → Prop} {Q : Exit → Act → World → Prop} {E : Prop} {w : World} (hgd : o.guard = none) (s xo : Operand)
    (ho : o.op = .call { callee := .builtin .append, args := #[s, xo], argTypes := #[T, T] }) (B : Nat) (x : Ls α) (hg : Gr K B w x) (hs : a.eval s = x.v)
    (ad : Addr) (m c : Nat) (l : List α) (hx : a.eval xo = .slice (some ad) m c) (hm : m = l.length) (hp : 0 < m) (hsrc : ∀ j u, (K.cells l)[j]? = some u → w.cell? (ad.add j) = some u)
    (hb : x.l.length + l.length ≤ 1000000000) (hB : B ≤ w.heap.size)
    (h : ∀ z w1, z.l = x.l ++ l → Gr K B w1 z → w.grownBy w1 x.v.ownBlock → (∀ k, z.v.ownBlock = some k → x.v.ownBlock = some k ∨ w.heap.size ≤ k) → G (a.put o.dst z.v) w1) : if Region.wanted o (yielded ops a.tmps) = true then Oper.wp P o a w G Q else E := by
  obtain ⟨KI⟩ := hK
  subst hm
  refine step_append_lies w hgd s xo T ho B K.ty KI.i KI.z K.k KI.bytes KI.under KI.info KI.zero KI.size KI.byt KI.zs KI.pos x.v x.l.length (K.cells x.l) hs hg ad l.length c (K.cells l) hx (K.cells_len l) hsrc (K.cells_mem l) hp (by unfold maxLen; omega) ?_ hB _ rfl ?_
  · have := KI.few
    have : (x.l.length + l.length) * KI.bytes ≤ 1000000000 * 100 := Nat.mul_le_mul hb KI.few
    omega
  · intro g cap w1 hown hgrow hlies _
    rw [← K.cells_app, ← List.length_append] at hown
    have := h ⟨x.l ++ l, some ⟨g, 0, none⟩, cap⟩ w1 rfl hown hgrow (fun k e => by
      have e : some g = some k := e
      injection e with e
      subst e
      rcases hlies with h1 | h1
      · exact .inl h1
      · exact .inr (by omega))
    unfold Ls.v at this
    rw [List.length_append] at this
    exact this
/-! ### a list of the operation that grows -/
structure Pg {α : Type} (K : Kd α) (fld : LOp → Ls α → LOp) (N : (Nat → Prop) → World → α → Prop) (E n T V B : Nat) (w W : World) (xs : List Int) (i : Nat) (o : LOp) (x : Ls α) : Prop where
  me : Mk E n T V w W xs i (fld o x)
  lies : Lies (Fr n B) W o
  gr : Gr K B W x
  nst : ∀ y ∈ x.l, N (fun k => k < n ∨ x.v.ownBlock = some k) W y
  size : B ≤ W.heap.size
  nB : n ≤ B
def nPath (F : Nat → Prop) (W : World) (y : LNd) : Prop := Lz kBx F W y.boxes
def nHist (F : Nat → Prop) (W : World) (y : LSd) : Prop := Lz kU8 F W y.body
def nAny {α : Type} (_ : Nat → Prop) (_ : World) (_ : α) : Prop := True
def sPath (o : LOp) (x : Ls LNd) : LOp := { o with path := x }
def sHist (o : LOp) (x : Ls LSd) : LOp := { o with hist := x }
def sRefs (o : LOp) (x : Ls Nat) : LOp := { o with refs := x }
def sGuards (o : LOp) (x : Ls Int) : LOp := { o with guards := x }
/-- It may be carried on. -/
def Mv {α : Type} (N : (Nat → Prop) → World → α → Prop) : Prop := ∀ (F : Nat → Prop) (W W' : World) (y : α), N F W y → Bf F W W' → N F W' y
theorem mv_path : Mv nPath := fun _ _ _ _ h hb => Lz.bf h hb
theorem mv_hist : Mv nHist := fun _ _ _ _ h hb => Lz.bf h hb
theorem mv_any {α : Type} : Mv (nAny (α := α)) := fun _ _ _ _ _ _ => trivial
section
variable {α : Type} {K : Kd α} {fld : LOp → Ls α → LOp} {N : (Nat → Prop) → World → α → Prop} {E n T V B : Nat} {w W W' : World} {xs : List Int} {i j : Nat} {o : LOp} {x : Ls α}
theorem Pg.bf (h : Pg K fld N E n T V B w W xs i o x) (hN : Mv N) {F : Nat → Prop} (hb : Bf F W W') (hF : ∀ k, F k → k < n) (hm : Mk E n T V w W' xs j (fld o x)) : Pg K fld N E n T V B w W' xs j o x :=
  ⟨hm, h.lies.bf (hb.weak fun k _ hk => .inl (hF k hk)), h.gr.bf hb fun k hk => Nat.lt_of_lt_of_le (hF k hk) h.nB, fun y hy => hN _ _ _ _ (h.nst y hy) (hb.weak fun k _ hk => .inl (hF k hk)), Nat.le_trans h.size hb.size, h.nB⟩
theorem Pg.tn (h : Pg K fld N E n T V B w W xs i o x) (hN : Mv N) (k : Tn T W W' xs j) : Pg K fld N E n T V B w W' xs j o x :=
  h.bf hN (F := fun k => k = T) (Bf.grown k.2 fun g eg => by injection eg with eg; exact eg.symm) (fun k hk => by have := h.me.ord; omega) (h.me.tn k)
theorem Pg.drew (h : Pg K fld N E n T V B w W xs i o x) (hN : Mv N) : Pg K fld N E n T V B w W.drew xs i o x := h.bf hN (F := No) (Bf.drew W) (fun _ hk => hk.elim) h.me.drew
theorem Pg.alloc (h : Pg K fld N E n T V B w W xs i o x) (hN : Mv N) (b : Obj) : Pg K fld N E n T V B w (W.alloc b) xs i o x := h.bf hN (F := No) (Bf.alloc W b) (fun _ hk => hk.elim) (h.me.alloc b)
/-- The beginning: no item yet. -/
theorem Pg.nil (h : Mk E n T V w W xs i o) (he : fld o Ls.nil = o) : Pg K fld N E n T V W.heap.size w W xs i o Ls.nil :=
  ⟨by rw [he]; exact h, h.lies.fr (Nat.le_refl _), Gr.nil _ _, (fun _ hy => nomatch hy), Nat.le_refl _, h.ord.2.2.2⟩
end
theorem Pg.in_ {α β : Type} {K : Kd α} {K' : Kd β} {fld : LOp → Ls α → LOp} {N : (Nat → Prop) → World → α → Prop} {E n T V B : Nat} {w W W' : World} {xs : List Int} {i : Nat} {o : LOp} {x : Ls α} (h : Pg K fld N E n T V B w W xs i o x) {y : Ls β} (hy : Gr K' W.heap.size W' y) : Lz K' (fun k => k < n ∨ x.v.ownBlock = some k) W' y :=
  hy.lz fun k hk => by
    rcases hk with hk | hk
    · have := h.nB; have := h.size; omega
    · exact (h.gr.lt k hk).2
theorem path_push {E n T V B : Nat} {w W w1 : World} {xs : List Int} {i : Nat} {o : LOp} {x z : Ls LNd} {y : LNd} (h : Pg kNd sPath nPath E n T V B w W xs i o x) (hy : Lz kBx (fun k => k < n ∨ x.v.ownBlock = some k) W y.boxes)
    (hz : z.l = x.l ++ [y]) (hgz : Gr kNd B w1 z) (hgw : W.grownBy w1 x.v.ownBlock) (hlie : ∀ k, z.v.ownBlock = some k → x.v.ownBlock = some k ∨ W.heap.size ≤ k) :
    Pg kNd sPath nPath E n T V B w (w1.setCell ⟨V, 9, none⟩ (.slice z.A z.l.length z.c)) xs i o z := by
  obtain ⟨h1, h2, h3, h4, h5⟩ := Mk.path_step h.me h.lies h.gr h.nB h.nst hy h.size hz hgz hgw hlie
  exact ⟨h1, h2, h3, h4, h5, h.nB⟩
theorem hist_push {E n T V B : Nat} {w W w1 : World} {xs : List Int} {i : Nat} {o : LOp} {x z : Ls LSd} {y : LSd} (h : Pg kSd sHist nHist E n T V B w W xs i o x) (hy : Lz kU8 (fun k => k < n ∨ x.v.ownBlock = some k) W y.body)
    (hz : z.l = x.l ++ [y]) (hgz : Gr kSd B w1 z) (hgw : W.grownBy w1 x.v.ownBlock) (hlie : ∀ k, z.v.ownBlock = some k → x.v.ownBlock = some k ∨ W.heap.size ≤ k) :
    Pg kSd sHist nHist E n T V B w (w1.setCell ⟨V, 24, none⟩ (.slice z.A z.l.length z.c)) xs i o z := by
  obtain ⟨h1, h2, h3, h4, h5⟩ := Mk.hist_step h.me h.lies h.gr h.nB h.nst hy h.size hz hgz hgw hlie
  exact ⟨h1, h2, h3, h4, h5, h.nB⟩
theorem refs_push {E n T V B : Nat} {w W w1 : World} {xs : List Int} {i : Nat} {o : LOp} {x z : Ls Nat} (h : Pg kU64 sRefs nAny E n T V B w W xs i o x) (hgz : Gr kU64 B w1 z) (hgw : W.grownBy w1 x.v.ownBlock) :
    Pg kU64 sRefs nAny E n T V B w (w1.setCell ⟨V, 15, none⟩ (.slice z.A z.l.length z.c)) xs i o z := by
  obtain ⟨h1, h2, h3, h5⟩ := Mk.refs_step h.me h.lies h.gr h.nB h.size hgz hgw
  exact ⟨h1, h2, h3, fun _ _ => trivial, h5, h.nB⟩
theorem guards_push {E n T V B : Nat} {w W w1 : World} {xs : List Int} {i : Nat} {o : LOp} {x z : Ls Int} (h : Pg kInt sGuards nAny E n T V B w W xs i o x) (hgz : Gr kInt B w1 z) (hgw : W.grownBy w1 x.v.ownBlock) :
    Pg kInt sGuards nAny E n T V B w (w1.setCell ⟨V, 19, none⟩ (.slice z.A z.l.length z.c)) xs i o z := by
  obtain ⟨h1, h2, h3, h5⟩ := Mk.guards_step h.me h.lies h.gr h.nB h.size hgz hgw
  exact ⟨h1, h2, h3, fun _ _ => trivial, h5, h.nB⟩
theorem Pg.own {α : Type} {K : Kd α} {fld : LOp → Ls α → LOp} {N : (Nat → Prop) → World → α → Prop} {E n T V B : Nat} {w W w1 : World} {xs : List Int} {i : Nat} {o : LOp} {x : Ls α} (h : Pg K fld N E n T V B w W xs i o x) (hgw : W.grownBy w1 x.v.ownBlock) : Vr w1 V (fld o x) :=
  blk_grown h.me.vr hgw fun eg => by have h5 := (h.gr.lt V eg.symm).1; have := h.me.ord; have := h.nB; omega

theorem Mk.fin {E n T V : Nat} {w W : World} {xs : List Int} {i : Nat} {o : LOp} (h : Mk E n T V w W xs i o) (hE : E = w.heap.size) : Lies No (W.setRow w.heap.size o.cells) o ∧ Below w.heap.size w (W.setRow w.heap.size o.cells) := by
  subst hE
  obtain ⟨h1, h2, h3, h4⟩ := h.ord
  refine ⟨(h.lies.bf (Bf.setRow W (V := w.heap.size) (cs := o.cells) (show w.heap.size < n by omega))).no, ?_⟩
  exact h.bel.grown (grown_setRow W _ o.cells) (by omega) fun g eg => by injection eg with eg; omega

/-- The next number, its bound a literal. -/
theorem next_lit {T i : Nat} {w : World} {xs : List Int} (h : Tk T w xs i) (hi : i ≤ 1000) (most : Int) (m : Nat) (hm : 0 < m) (hm2 : m ≤ 1000000) (e : most = (m : Int)) {r : Nat} (hr : r = nx xs i m) :
    Calls Tryz.prog 33 #[.pointer (some ⟨T, 0, none⟩), .int .i64 most] w fun x w' => x = .returned (.int .i64 (r : Int)) ∧ Tn T w w' xs (i + 1) := by
  subst e
  rw [hr]
  exact next_any h hi m hm hm2
theorem boxes_lit {T i : Nat} {w : World} {xs : List Int} (h : Tk T w xs i) (n : Int) (m : Nat) (hm : m ≤ 30) (hi : i ≤ 800) (e : n = (m : Int)) :
    Calls Tryz.prog 37 #[.pointer (some ⟨T, 0, none⟩), .int .i64 n] w fun e w' => ∃ x : Ls Bx, e = .returned (.slice x.A x.l.length x.c) ∧ x.l.length = m ∧ (∀ y ∈ x.l, GBx y) ∧ Gr kBx w.heap.size w' x ∧ Tn T w w' xs (i + 4 * m) := by
  subst e
  exact boxes_any h m hm hi
theorem bytes_lit {T i : Nat} {w : World} {xs : List Int} (h : Tk T w xs i) (n : Int) (m : Nat) (hm : m ≤ 30) (hi : i ≤ 800) (e : n = (m : Int)) :
    Calls Tryz.prog 38 #[.pointer (some ⟨T, 0, none⟩), .int .i64 n] w fun e w' => ∃ x : Ls UInt8, e = .returned (.slice x.A x.l.length x.c) ∧ x.l.length = m ∧ (∀ y ∈ x.l, GB8 y) ∧ Gr kU8 w.heap.size w' x ∧ Tn T w w' xs (i + m) := by
  subst e
  exact bytes_any h m hm hi

/-! ### what an operation that was made is -/
structure PathOk (o o' : LOp) : Prop where
  eq : o' = { o with path := o'.path }
  none_ : isCommit o.kind = false → o'.path.l = []
  few : o'.path.l.length ≤ 3
  good : ∀ y ∈ o'.path.l, 1 ≤ y.pub ∧ y.pub ≤ 1000 ∧ y.boxes.l.length ≤ 2 ∧ ∀ b ∈ y.boxes.l, GBx b
/-- A kind's own fields. -/
inductive Sw (o : LOp) : LOp → Prop
  | create (n : Int) (hk : o.kind = 1) (h0 : 0 ≤ n) (h1 : n ≤ 20) : Sw o { o with need := n }
  | add (d r : Int) (hk : o.kind = 2) (h0 : 1 ≤ d ∧ d ≤ 12) (h1 : 1 ≤ r ∧ r ≤ 3) : Sw o { o with dev := d, role := r }
  | remove (d : Int) (hk : o.kind = 3) (h0 : 1 ≤ d ∧ d ≤ 6) : Sw o { o with dev := d }
  | remove2 (m : Int) (hk : o.kind = 3) (h0 : 1 ≤ m ∧ m ≤ 8) : Sw o { o with dev := 0, mem := m }
  | update (hk : o.kind = 4) : Sw o o
  | promote (m r : Int) (hk : o.kind = 5) (h0 : 1 ≤ m ∧ m ≤ 8) (h1 : 1 ≤ r ∧ r ≤ 3) : Sw o { o with mem := m, role := r }
  | message (e : Pk.Nm) (n : Int) (b : Ls UInt8) (f : Ls Nat) (hk : o.kind = 6) (h0 : GNm e) (h1 : 0 ≤ n ∧ n ≤ 4) (h2 : 8 ≤ b.l.length ∧ b.l.length ≤ 16) (h3 : f.l.length ≤ 2) (h4 : ∀ y ∈ f.l, y < 1000) : Sw o { o with epoch := e, n := n, body := b, refs := f }
  | react (e : Pk.Nm) (b : Ls UInt8) (hk : o.kind = 7) (h0 : GNm e) (h2 : 1 ≤ b.l.length ∧ b.l.length ≤ 4) : Sw o { o with of_ := e, body := b }
  | plain (e : Pk.Nm) (hk : o.kind = 8 ∨ o.kind = 12) (h0 : GNm e) : Sw o { o with of_ := e }
  | guard (g : Ls Int) (n t : Int) (p : Nat) (b : Ls Bx) (hk : o.kind = 9) (h0 : 0 < g.l.length ∧ g.l.length ≤ 6) (h1 : ∀ y ∈ g.l, 1 ≤ y ∧ y ≤ 6) (h2 : g.l.Pairwise (· < ·)) (h3 : 1 ≤ n ∧ n ≤ (g.l.length : Int)) (h4 : 0 ≤ t ∧ t < 50) (h5 : 1 ≤ p ∧ p ≤ 1000) (h6 : b.l.length = g.l.length) (h7 : ∀ y ∈ b.l, GBx y) : Sw o { o with guards := g, need := n, wait := t, pub := p, boxes := b }
  | refresh (e : Pk.Nm) (b : Ls Bx) (hk : o.kind = 10) (h0 : GNm e) (h1 : 1 ≤ b.l.length ∧ b.l.length ≤ 6) (h2 : ∀ y ∈ b.l, GBx y) : Sw o { o with of_ := e, boxes := b }
  | vouch (e : Pk.Nm) (d : Int) (b : Ls Bx) (hk : o.kind = 11) (h0 : GNm e) (h3 : 1 ≤ d ∧ d ≤ 12) (h1 : b.l.length = 1) (h2 : ∀ y ∈ b.l, GBx y) : Sw o { o with of_ := e, dev := d, boxes := b }
  | replace (e : Pk.Nm) (d d2 : Int) (hk : o.kind = 13) (h0 : GNm e) (h1 : 1 ≤ d ∧ d ≤ 12) (h2 : 1 ≤ d2 ∧ d2 ≤ 12) : Sw o { o with of_ := e, dev := d, old := d2 }
theorem Sw.head3 {o o' : LOp} (h : Sw o o') : o'.kind = o.kind := by cases h <;> rfl
theorem Sw.hist0 {o o' : LOp} (h : Sw o o') : o'.hist = o.hist := by cases h <;> rfl
structure HistOk (o o' : LOp) : Prop where
  eq : o' = { o with hist := o'.hist }
  none_ : o.kind ≠ 2 → o.kind ≠ 13 → o'.hist.l = []
  few : o'.hist.l.length ≤ 2
  good : ∀ y ∈ o'.hist.l, GNm y.nm ∧ 8 ≤ y.body.l.length ∧ y.body.l.length ≤ 12
/-- An operation that the reference makes of numbers. -/
def GOp (xs : List Int) (o : LOp) : Prop :=
  ∃ (r0 r3 : Nat) (o1 o2 o3 : LOp), r0 < 13 ∧ r3 < 500 ∧ PastOk { LOp.zero with kind := 1 + (r0 : Int), by_ := 1 + (nx xs (0 + 1) 6 : Nat), seq := 1 + (nx xs (0 + 1 + 1) 20 : Nat), at_ := (r3 : Int) } o1 ∧ PathOk o1 o2 ∧ Sw o2 o3 ∧ HistOk o3 o
end Ot
end Go.Proofs.YtkicjjcangkneaaGreatDoor
