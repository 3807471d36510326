/-
  Package sketch's solve, its rows gone through: what tells the unknowns, or that nothing does.
-/
import Derived.Test.YtcbcmnbfflaicaaSkf
import Derived.WalkMore
import Derived.Lib.SliceRun
import Derived.Deep.LoopGhost
import Derived.RangeFuncCalls
import Derived.RangeFuncWrites
import Derived.RangeFuncNested
namespace Go.Proofs.Ytcbcmnbfflaicaa
open Go.RowKit Go.Shelf
open Sk (upd Ech Inn Bck)
attribute [local go_sem] Oper.semAt_some

theorem info_slice64 : (Try.prog.info? 25).map (fun i => (i.zero, i.size, i.bytes)) = some (some (.slice none 0 0), 1, 24) := by kernel_rfl
theorem nils_cells (n : Nat) : madeCells #[.slice none 0 0] (n * 1) = (List.replicate n (Value.slice none 0 0)).toArray := by
  apply Array.ext
  · rw [size_madeCells, Nat.mul_one]; simp
  · intro i h1 h2
    simp [madeCells, Nat.mod_one]
theorem mkrows (n : Nat) (hn : n ≤ 10000000) (W : World) :
    (Instr.makeSlice 75 (.int .i64 (n : Int)) (.int .i64 (n : Int))).run Try.prog W = .ok (.slice (some ⟨W.heap.size, 0, none⟩) n n) (W.alloc (.cells (List.replicate n (Value.slice none 0 0)).toArray 25)) := by
  obtain ⟨i0, hi, hz0, hz1, hz2⟩ := info_parts info_slice64
  have h := run_make (P := Try.prog) W 75 25 i0 (.slice none 0 0) Try.underlying75 hi hz0 .i64 .i64 (n : Int) (n : Int) (by omega) (by omega) (by rw [hz2]; omega) (by omega)
  rw [hz1] at h
  rw [h]
  simp only [Int.toNat_natCast]
  rw [show (Value.slice none 0 0).cells = #[.slice none 0 0] from rfl, nils_cells]

theorem nils_map (gs cs : Nat → Nat) (u : Nat) : ((List.range u).map fun i => tv gs cs u ((fun _ => none : Nat → Option Nat) i)) = List.replicate u (.slice none 0 0) := by
  apply List.ext_getElem?
  intro i
  by_cases h : i < u
  · rw [List.getElem?_map, List.getElem?_range h, List.getElem?_replicate, if_pos h]; rfl
  · rw [List.getElem?_eq_none (by simp; omega), List.getElem?_eq_none (by simp; omega)]

/-- What stands behind some rows: they, the unknowns told, and the answer's place. -/
structure Sx (lo B R n u : Nat) (gs cs : Nat → Nat) (Ds : Nat → List Value) (w : World) (ρ : Nat → Option Nat) (M : Nat → List Nat) (wx : World) : Prop where
  gs : Gs R (B + 1) n u gs cs Ds ρ M wx
  bel : Below lo w wx
  res : Blk wx B 25 #[.slice none 0 0]
theorem Sx.below {lo B R n u : Nat} {gs cs : Nat → Nat} {Ds : Nat → List Value} {w : World} {ρ : Nat → Option Nat} {M : Nat → List Nat} {wx wy : World} (h : Sx lo B R n u gs cs Ds w ρ M wx) (hl : lo ≤ wx.heap.size) (hb : Below wx.heap.size wx wy) : Sx lo B R n u gs cs Ds w ρ M wy :=
  ⟨h.gs.below hb, h.bel.trans (hb.mono hl), (hb.block B h.res.lt).trans h.res⟩
theorem Sx.change {lo B R n u j : Nat} {gs cs : Nat → Nat} {Ds : Nat → List Value} {w : World} {ρ : Nat → Option Nat} {M : Nat → List Nat} {wx wy : World} (h : Sx lo B R n u gs cs Ds w ρ M wx) (hf : Gf lo R (B + 1) n u gs cs) (hj : j < n) (hlo : lo ≤ wx.heap.size) (hB : gs j ≠ B) {r : List Nat}
    (hg : wx.grownBy wy (some (gs j))) (hr : Ax wy (gs j) r (Ds j)) : Sx lo B R n u gs cs Ds w ρ (upd M j r) wy :=
  ⟨h.gs.change hf hj hg hr, ⟨hg.os.trans h.bel.os, hg.tape.trans h.bel.tape, hg.output.trans h.bel.output, Nat.le_trans h.bel.size hg.size, fun k hk => (hg.block k (by omega) (fun e => by injection e with e; have := hf.lo.2.2.2 j hj; omega)).trans (h.bel.block k hk)⟩,
    (hg.block B h.res.lt (fun e => hB (by injection e with e; exact e.symm))).trans h.res⟩
theorem Sx.store {lo B R n u j i : Nat} {gs cs : Nat → Nat} {Ds : Nat → List Value} {w : World} {ρ : Nat → Option Nat} {M : Nat → List Nat} {wx : World} (h : Sx lo B R n u gs cs Ds w ρ M wx) (hf : Gf lo R (B + 1) n u gs cs) (hlo : lo ≤ B) :
    Sx lo B R n u gs cs Ds w (upd ρ i (some j)) M (wx.setCell ⟨B + 1, i, none⟩ (.slice (some ⟨gs j, 0, none⟩) (u + 1) (cs j))) :=
  ⟨h.gs.store hf, h.bel.setCell (p := ⟨B + 1, i, none⟩) (by show lo ≤ B + 1; omega) _, (Below.heap_setCell wx ⟨B + 1, i, none⟩ _ B (by show B ≠ B + 1; omega)).trans h.res⟩
theorem Gs.keep {lo B R T n u : Nat} {gs cs : Nat → Nat} {Ds : Nat → List Value} {ρ : Nat → Option Nat} {M : Nat → List Nat} {w w' : World} (h : Gs R T n u gs cs Ds ρ M w) (hB : R ≠ B ∧ T ≠ B ∧ ∀ k, k < n → gs k ≠ B) (hl : lo = w.heap.size) (hb : ∀ k, k < lo → k ≠ B → w'.heap[k]? = w.heap[k]?) : Gs R T n u gs cs Ds ρ M w' := by
  subst hl
  exact ⟨fun k hk => (World.cell?_of_block (a := ⟨R, k, none⟩) (hb R (World.block_lt_of_cell? w _ (h.rows k hk)) hB.1)).trans (h.rows k hk), fun k hk => (hb _ (Blk.lt (h.row k hk)) (hB.2.2 k hk)).trans (h.row k hk), (hb _ h.tel.lt hB.2.1).trans h.tel⟩
theorem upd_upd {α : Type} (f : Nat → α) (j : Nat) (x y : α) : upd (upd f j x) j y = upd f j y := funext fun k => by unfold upd; split <;> rfl
theorem upd_id {α : Type} (f : Nat → α) (j : Nat) : upd f j (f j) = f := funext fun k => by
  unfold upd
  split
  · rename_i h; rw [h]
  · rfl

/-- What solve tells: numbers that solve all rows, or that nothing does. -/
def Solved (lo u n : Nat) (M0 : Nat → List Nat) (w : World) (e : Ending) (w' : World) : Prop :=
  ((∃ g l, e = .returned (.tuple #[.slice (some ⟨g, 0, none⟩) (u + 1) (u + 1), .bool true]) ∧ lo ≤ g ∧ Ar w' g l ∧ l.length = u + 1 ∧ Pl.Sm l ∧ Pl.co l u = 1 ∧ ∀ k, k < n → Sk.dot u (Pl.co (M0 k)) (Pl.co l) = 0) ∨
    (e = .returned (.tuple #[.slice none 0 0, .bool false]) ∧ ∀ v : Nat → Fld.F, v u = 1 → ¬ ∀ k, k < n → Sk.dot u (Pl.co (M0 k)) v = 0)) ∧ Below lo w w'

set_option maxRecDepth 100000 in
set_option maxHeartbeats 4000000 in
theorem solve_any (R n c u : Nat) (gs cs : Nat → Nat) (Ds : Nat → List Value) (M0 : Nat → List Nat) (w : World) (lo : Nat) (hlo : lo ≤ w.heap.size) (hn : n ≤ 10000) (hu : u ≤ 10000)
    (hrows : ∀ k, k < n → w.cell? ⟨R, k, none⟩ = some (.slice (some ⟨gs k, 0, none⟩) (u + 1) (cs k))) (hrow : ∀ k, k < n → Ax w (gs k) (M0 k) (Ds k)) (hlen : ∀ k, k < n → (M0 k).length = u + 1 ∧ Pl.Sm (M0 k))
    (hR : lo ≤ R ∧ R < w.heap.size) (hg : ∀ k, k < n → lo ≤ gs k ∧ gs k ≠ R ∧ u + 1 ≤ cs k) (hinj : ∀ k k', k < n → k' < n → gs k = gs k' → k = k') :
    Calls Try.prog 47 #[.slice (some ⟨R, 0, none⟩) n c, .int .i64 (u : Int)] w (Solved lo u n M0 w) := by
  have hmk := mkrows u (by omega)
  obtain ⟨B, hB⟩ : ∃ B, B = w.heap.size := ⟨_, rfl⟩
  have hgl : ∀ k, k < n → gs k < B := fun k hk => by rw [hB]; exact Blk.lt (hrow k hk)
  have hgf : Gf lo R (B + 1) n u gs cs := ⟨⟨hR.1, by omega, by omega, fun k hk => (hg k hk).1⟩, fun k hk => ⟨(hg k hk).2.1, by have := hgl k hk; omega⟩, hinj, fun k hk => (hg k hk).2.2⟩
  have hW : Below w.heap.size w ((w.alloc (Obj.cells #[Value.slice none 0 0] 25)).alloc (Obj.cells (Array.replicate u (Value.slice none 0 0)) 25)) := ((Below.refl _ w).alloc (Nat.le_refl _) _).alloc (by simp) _
  have hsx : Sx lo B R n u gs cs Ds w (fun _ => none) M0 ((w.alloc (Obj.cells #[Value.slice none 0 0] 25)).alloc (Obj.cells (Array.replicate u (Value.slice none 0 0)) 25)) := by
    refine ⟨⟨fun k hk => (hW.cell (p := ⟨R, k, none⟩) hR.2).trans (hrows k hk), fun k hk => Blk.below (hrow k hk) hW (by have := hgl k hk; omega), ?_⟩, hW.mono hlo, ?_⟩
    · have h1 := blk_new (w.alloc (Obj.cells #[Value.slice none 0 0] 25)) 25 (Array.replicate u (Value.slice none 0 0))
      rw [nils_map, List.toArray_replicate, hB]
      rw [World.size_alloc] at h1
      exact h1
    · rw [hB]
      exact blk_alloc (blk_new w 25 _) _
  have hec : Ech u n M0 M0 (fun _ => none) 0 := Ech.start hlen
  have hloB : lo ≤ B := by omega
  have HSX := Lib.hid hsx
  have HEC := Lib.hid hec
  have HGF := Lib.hid hgf
  have HGL := Lib.hid hgl
  have HBE := Lib.hid hB
  have HRB := Lib.hid (show R < B by omega)
  clear hsx hec hgf hgl hW hrows hrow hlen hR hg hinj
  refine (callsIn_wide (n := 3)).1 ?_
  refine callsIn_of_wp_marks Try.func47 rfl trivial ?_ rfl
  simp only [Try.ntmps47, List.size_toArray, List.length_cons, List.length_nil, Nat.reduceAdd, Nat.reduceSub, Array.replicate_succ, Array.replicate_zero, List.push_toArray, List.append_toArray, List.nil_append, List.cons_append]
  refine wpIn_wide.2 ?_
  go_wp2
  go_step3
  go_wp2
  go_step3
  go_wp2
  rw [← hB]
  clear hmk hB
  go_loopg [19] n (fun g s19 wx => ∃ (j : Nat) (ρ : Nat → Option Nat) (M : Nat → List Nat), j + g = n ∧ s19 = .int .i64 (j : Int) ∧ Hid (Ech u n M0 M ρ j) ∧ Hid (Sx lo B R n u gs cs Ds w ρ M wx))
  case atStart => exact ⟨0, _, M0, by omega, rfl, HEC, HSX⟩
  case round =>
    obtain ⟨j, ρ, M, hjg, rfl, HE, HS⟩ := hrel
    cases gk with
    | zero =>
      have hjn : j = n := by omega
      subst hjn
      obtain ⟨U, hU⟩ : ∃ U, U = u + 1 := ⟨_, rfl⟩
      have hw1 : (u : Int) + 1 = (U : Int) := by omega
      have hmk2 := mk64 U (by omega)
      have hres := HS.out.res
      have h1 := blk_alloc hres (.cells (u64s (List.replicate U 0)).toArray 22)
      have h2 := ar_new wr (List.replicate U 0)
      have hgB : wr.heap.size ≠ B := by have := hres.lt; omega
      have h3 := h1.set_ 0 (.slice (some ⟨wr.heap.size, 0, none⟩) U U)
      have h4 : Ar ((wr.alloc (.cells (u64s (List.replicate U 0)).toArray 22)).setCell ⟨B, 0, none⟩ (.slice (some ⟨wr.heap.size, 0, none⟩) U U)) wr.heap.size (List.replicate U 0) := (Below.heap_setCell _ _ _ _ hgB).trans h2
      have h5 := h4.set_ u 1
      rw [Int.natCast_one] at h5
      have h6 : Blk (((wr.alloc (.cells (u64s (List.replicate U 0)).toArray 22)).setCell ⟨B, 0, none⟩ (.slice (some ⟨wr.heap.size, 0, none⟩) U U)).setCell ⟨wr.heap.size, u, none⟩ (.int .u64 1)) B 25 #[.slice (some ⟨wr.heap.size, 0, none⟩) U U] := (Below.heap_setCell _ _ _ _ (Ne.symm hgB)).trans h3
      have c1 : (wr.alloc (.cells (u64s (List.replicate U 0)).toArray 22)).cell? ⟨B, 0, none⟩ = some (.slice none 0 0) := h1.cell 0
      have c2 := h1.frozen 0
      have c3 : ((wr.alloc (.cells (u64s (List.replicate U 0)).toArray 22)).setCell ⟨B, 0, none⟩ (.slice (some ⟨wr.heap.size, 0, none⟩) U U)).cell? ⟨B, 0, none⟩ = some (.slice (some ⟨wr.heap.size, 0, none⟩) U U) := h3.cell 0
      have c4 := h4.cell (i := u) (by rw [List.length_replicate]; omega)
      rw [List.getElem?_replicate, if_pos (by omega)] at c4
      have c4 : ((wr.alloc (.cells (u64s (List.replicate U 0)).toArray 22)).setCell ⟨B, 0, none⟩ (.slice (some ⟨wr.heap.size, 0, none⟩) U U)).cell? ⟨wr.heap.size, u, none⟩ = some (.int .u64 0) := c4
      have c5 := h4.frozen u
      have q0 : (0 : Int) ≤ (u : Int) := by omega
      have q1 : (u : Int) < (U : Int) := by omega
      have hbk : Below wr.heap.size wr (wr.alloc (.cells (u64s (List.replicate U 0)).toArray 22)) := (Below.refl _ wr).alloc (Nat.le_refl _) _
      obtain ⟨g, hg⟩ : ∃ g, g = wr.heap.size := ⟨_, rfl⟩
      have H5 := Lib.hid h5
      have H6 := Lib.hid h6
      have HU := Lib.hid hU
      have HG := Lib.hid hg
      have HBK := Lib.hid hbk
      clear hU h1 h2 h3 h4 h5 h6 hres hbk hg
      have hbc := fun W A m c => (callsIn_wide (n := 1)).1 (backs_call Fence.wide 1 trivial rfl A m c W)
      have HBC := Lib.hid hbc
      clear hbc
      go_wp2_with fail
      refine (HBC.out _ _ _ _).mono ?_
      rintro e w3 ⟨rfl, hw3⟩
      obtain ⟨W0, hW0⟩ : ∃ W0, W0 = ((wr.alloc (.cells (u64s (List.replicate U 0)).toArray 22)).setCell ⟨B, 0, none⟩ (.slice (some ⟨wr.heap.size, 0, none⟩) U U)).setCell ⟨wr.heap.size, u, none⟩ (.int .u64 1) := ⟨_, rfl⟩
      rw [← hW0] at hw3 ⊢
      have hsz00 : W0.heap.size = wr.heap.size + 1 := by rw [hW0]; simp [World.setCell]
      rw [hsz00]
      have HW3 := Lib.hid hw3
      have HW0 := Lib.hid hW0
      clear hw3 hW0 hsz00
      go_wp2
      have hw3 := HW3.out
      have hW0 := HW0.out
      have hlow : lo ≤ wr.heap.size := by have := HS.out.bel.size; omega
      have hsz0 : W0.heap.size = g + 1 := by rw [hW0, HG.out]; simp [World.setCell]
      have hkp0 : ∀ k, k < wr.heap.size → k ≠ B → W0.heap[k]? = wr.heap[k]? := fun k hk hne => by
        rw [hW0]
        exact ((Below.heap_setCell _ ⟨wr.heap.size, u, none⟩ _ k (by show k ≠ wr.heap.size; omega)).trans (Below.heap_setCell _ ⟨B, 0, none⟩ _ k hne)).trans (HBK.out.block k hk)
      have hgs0 : Gs R (B + 1) j u gs cs Ds ρ M W0 := HS.out.gs.keep (B := B) ⟨fun e => by have := HSX.out.gs; have h1 := HGF.out.lo.1; have h2 := HBE.out; exact absurd e (by have := HRB.out; omega), by omega, fun k hk => by have := HGL.out k hk; omega⟩ rfl hkp0
      have hbl0 : Below lo w W0 := by
        rw [hW0]
        exact ((HS.out.bel.trans (HBK.out.mono hlow)).setCell (p := ⟨B, 0, none⟩) hloB _).setCell (p := ⟨wr.heap.size, u, none⟩) hlow _
      have hb3 : Below W0.heap.size W0 w3 := by rw [hw3]; exact (Below.refl _ W0).alloc (Nat.le_refl _) _
      have hsz3 : w3.heap.size = g + 2 := by rw [hw3, World.size_alloc, hsz0]
      have hgs3 := hgs0.below hb3
      have har3 : Ar w3 g ((List.replicate U 0).set u 1) := by
        have h := H5.out
        rw [← hW0, ← HG.out] at h
        exact h.below hb3 (by omega)
      have hB3 : Blk w3 B 25 #[.slice (some ⟨g, 0, none⟩) U U] := by
        have h := H6.out
        rw [← hW0, ← HG.out] at h
        exact (hb3.block B h.lt).trans h
      have hbx3 : w3.cell? ⟨g + 1, 0, none⟩ = some (.slice (some ⟨B + 1, 0, none⟩) u u) := by
        have h := (cell_new_l W0 (.slice (some ⟨B + 1, 0, none⟩) u u) 75).1
        rw [← hw3, hsz0] at h
        exact h
      have hbl3 : Below lo w w3 := hbl0.trans (hb3.mono (by have := hbl0.size; omega))
      have hBg : B < g := by have := HS.out.res.lt; have := HG.out; omega
      have hTg : B + 1 < g := by have := HS.out.gs.tel.lt; have := HG.out; omega
      have hgg : ∀ k, k < j → gs k < g := fun k hk => by have := Blk.lt (HS.out.gs.row k hk); have := HG.out; omega
      have hRg : R ≠ g := by have := HRB.out; omega
      have hlog : lo ≤ g := by have := HG.out; omega
      rw [← HG.out]
      have hE : Ech u j M0 M ρ j := HE.out
      have HGS3 := Lib.hid hgs3
      have HAR3 := Lib.hid har3
      have HB3 := Lib.hid hB3
      have HBX3 := Lib.hid hbx3
      have HBL3 := Lib.hid hbl3
      have HGG := Lib.hid hgg
      have HE3 := Lib.hid hE
      have hrd : ∀ W, Fx (g + 2) (fun k => k = g) w3 W → ReadsS (g + 1) (some ⟨B + 1, 0, none⟩) u u (fun i v => v = tv gs cs u (ρ i)) W := fun W h =>
        ⟨(h.cell (p := ⟨g + 1, 0, none⟩) (by show g + 1 < g + 2; omega) (by show ¬ (g + 1 = g); omega)).trans HBX3.out, fun i hi => ⟨B + 1, 0, tv gs cs u (ρ i), rfl, rfl, by
          rw [Nat.zero_add]; exact (h.cell (p := ⟨B + 1, i, none⟩) (by show B + 1 < g + 2; omega) (by show ¬ (B + 1 = g); omega)).trans (HGS3.out.tell hi)⟩⟩
      have HRD := Lib.hid hrd
      clear hgs3 har3 hB3 hbx3 hbl3 hgg hE hrd hgs0 hbl0 hkp0 hb3 c1 c2 c3 c4 c5 hmk2 hsz0 hw3 hW0 HW3 HW0 H5 H6 hw1
      refine (wpIn_wide (n := 3)).1 ?_
      refine wpIn_rangeFunc_ownF rfl (by omega) (gf := 74) (lb := #[.pointer (some ⟨g + 1, 0, none⟩)]) rfl trivial (enters_of Try.func74 (by kernel_rfl) rfl)
        (backs_stops (3 - 1) (by omega) (g + 1) (some ⟨B + 1, 0, none⟩) u u (by omega) (fun i v => v = tv gs cs u (ρ i)) (fun W => Fx (g + 2) (fun k => k = g) w3 W) (Fx (g + 2) (fun k => k = g)) HRD.out (fun W W' h k => h.trans k) w3 (fun W h => Fx.of_below h (fun k hk _ => by omega)))
        Fx.trans (Fx.k_b (by omega)) (Below.refl _ _) (fun _ => rfl)
        (fun pre W => (∃ L, Ar W g L ∧ L.length = u + 1 ∧ Pl.Sm L ∧ (SeenS u (fun i v => v = tv gs cs u (ρ i)) pre → Bck u M ρ L (u - pre.length))) ∧ Fx (g + 2) (fun k => k = g) w3 W)
        (fun _ _ _ => False)
        (OwnFrom.and (Own.from (fun s W1 W2 row hs hg' hr => by obtain ⟨L, ha, h⟩ := hs; exact ⟨L, blk_kept ha hg' hr, h⟩) _) (Fx.own (by omega) (by omega)))
        (fun _ _ _ _ _ hs _ _ => hs)
        ⟨⟨(List.replicate U 0).set u 1, HAR3.out, by rw [List.length_set, List.length_replicate]; exact HU.out, Pl.Sm.set_ (Pl.sm_zeros _) u (by omega), fun _ => by have h := Bck.start (u := u) M ρ; rw [← HU.out] at h; exact h⟩, Fx.refl _ _ _⟩
        ?a1 ?assign ?body ?done ?stop
      case assign =>
        intro l y W K hK
        unfold Ps.enc
        gi_wp2
        exact hK
      case body =>
        rintro l pre y W ⟨⟨L, har, hlen, hsm, hbck⟩, hfx⟩ hlt
        have hil := y.ilt
        have hv := y.is
        have hseen : SeenS u (fun i v => v = tv gs cs u (ρ i)) (pre ++ [y]) → SeenS u (fun i v => v = tv gs cs u (ρ i)) pre ∧ y.idx + (pre.length + 1) = u := fun h => h.init
        obtain ⟨i, hi⟩ : ∃ i, i = y.idx := ⟨_, rfl⟩
        obtain ⟨kv, hkv⟩ : ∃ kv, kv = y.val := ⟨_, rfl⟩
        rw [← hi] at hil hv hseen ⊢
        rw [← hkv] at hv ⊢
        have hgs : Gs R (B + 1) j u gs cs Ds ρ M W := HGS3.out.keep (B := g) ⟨hRg, by omega, fun k hk => by have := HGG.out k hk; omega⟩ rfl (fun k hk hne => hfx.block k (by omega) hne)
        have hcB : W.cell? ⟨B, 0, none⟩ = some (.slice (some ⟨g, 0, none⟩) U U) := (hfx.cell (p := ⟨B, 0, none⟩) (by show B < g + 2; omega) (by show ¬ B = g; omega)).trans (HB3.out.cell 0)
        have key : ∃ A nn cc rr, kv = .slice A nn cc ∧ Pt W A nn cc rr ∧ nn ≤ U ∧ Pl.Sm rr ∧ ∀ L, Bck u M ρ L (i + 1) → Bck u M ρ (L.set i (Fld.sub 0 (tog rr L nn))) i := by
          cases hρ : ρ i with
          | none => exact ⟨none, 0, 0, [], by rw [hv, hρ]; rfl, Pt.nil W, by omega, Pl.Sm.nil, fun L h => h.none_ hil hρ⟩
          | some k =>
            obtain ⟨hk, _, _⟩ := HE3.out.tel i k hil hρ
            have hlk := HE3.out.len k hk
            exact ⟨some ⟨gs k, 0, none⟩, u + 1, cs k, M k, by rw [hv, hρ]; rfl, hgs.pt hk hlk.1 (HGF.out.cap k hk), by have := HU.out; omega, hlk.2, fun L h => h.some_ HE3.out hil hρ⟩
        obtain ⟨A, nn, cc, rr, rfl, hP, hnn, hrs, hstep⟩ := key
        have hptL : Pt W.drew (some ⟨g, 0, none⟩) U U L := ⟨by have := HU.out; omega, har.rd har.lt, Nat.le_refl _, fun e => by cases e⟩
        have htg := together_any rr L A (some ⟨g, 0, none⟩) nn cc U U W.drew hP hptL hnn (by have := HU.out; omega) hrs.big hsm.big
        have htl := tog_lt rr L nn
        obtain ⟨s, hs⟩ : ∃ s, s = tog rr L nn := ⟨_, rfl⟩
        rw [← hs] at htg htl
        have hng := fun W => neg_any s W (by omega)
        obtain ⟨z, hz⟩ : ∃ z, z = Fld.sub 0 s := ⟨_, rfl⟩
        simp only [← hz] at hng
        have hzl : z < 2305843009213693951 := by rw [hz]; exact Fld.sub_lt _ _
        have hst := har.set_ i z
        have hcg := har.cell (i := i) (by omega)
        have hfg := har.frozen i
        have q0 : (0 : Int) ≤ (i : Int) := by omega
        have q1 : (i : Int) < (U : Int) := by have := HU.out; omega
        have hsz := hfx.size
        have HTG := Lib.hid htg
        have HNG := Lib.hid hng
        have HS' := Lib.hid hs
        have HZ := Lib.hid hz
        have HST := Lib.hid hst
        have HFX := Lib.hid hfx
        have HSE := Lib.hid hseen
        have HLEN := Lib.hid hlen
        have HSM := Lib.hid hsm
        have HBK2 := Lib.hid hbck
        have HSTEP := Lib.hid hstep
        have HAR := Lib.hid har
        clear htg hng hs hz hst hfx hseen hlen hsm hbck hstep har hP hptL hgs hv hi hkv hrs
        gi_wp2
        refine region_round (by kernel_rfl) (by kernel_rfl) (fun _ _ h => h) ?_
        have h8 : (fun W' : World => W'.cell? ⟨B, 0, none⟩ = some (.slice (some ⟨g, 0, none⟩) U U)) W.drew := hcB
        refine wpAny_of_held (S := (fun W' : World => W'.cell? ⟨B, 0, none⟩ = some (.slice (some ⟨g, 0, none⟩) U U))) _ _ _ _ ?_
        refine wpAnyH_take (i := 0) (v := ?_) rfl (by kernel_rfl) (by kernel_rfl) (by kernel_rfl) (fun _ _ _ h => h) (Or.inl ⟨by rfl, ?_⟩) (by assumption) ?_
        rotate_left
        · (intro w hSw; (try dsimp only at hSw); go_simp; try (with_reducible rfl))
        try simp only [Act.put, List.getElem_toArray, List.getElem_cons_zero, List.setIfInBounds_toArray, List.set_cons_zero, List.set_cons_succ]
        refine wpAnyH_take (i := 1) (v := ?_) rfl (by kernel_rfl) (by kernel_rfl) (by kernel_rfl) (fun _ _ _ h => h) (Or.inl ⟨by rfl, ?_⟩) (by assumption) ?_
        rotate_left
        · (intro w hSw; (try dsimp only at hSw); go_simp; try (with_reducible rfl))
        try simp only [Act.put, List.getElem_toArray, List.getElem_cons_succ, List.getElem_cons_zero, List.setIfInBounds_toArray, List.set_cons_zero, List.set_cons_succ]
        refine wpAnyH_take (i := 2) (v := ?_) rfl (by kernel_rfl) (by kernel_rfl) (by kernel_rfl) (fun _ _ _ h => h) (Or.inl ⟨by rfl, ?_⟩) (by assumption) ?_
        rotate_left
        · (intro w hSw; (try dsimp only at hSw); go_simp; try (with_reducible rfl))
        try simp only [Act.put, List.getElem_toArray, List.getElem_cons_succ, List.getElem_cons_zero, List.setIfInBounds_toArray, List.set_cons_zero, List.set_cons_succ]
        refine wpAnyH_take (i := 3) (v := ?_) rfl (by kernel_rfl) (by kernel_rfl) (by kernel_rfl) (fun _ _ _ h => h) (Or.inl ⟨by rfl, ?_⟩) (by assumption) ?_
        rotate_left
        · (intro w hSw; (try dsimp only at hSw); go_simp; try (with_reducible rfl))
        try simp only [Act.put, List.getElem_toArray, List.getElem_cons_succ, List.getElem_cons_zero, List.setIfInBounds_toArray, List.set_cons_zero, List.set_cons_succ]
        refine wpAnyH_ready (rs := [4]) (by kernel_rfl) (by simp) ?_
        refine AllReadyH.cons rfl (fun K hK => ?_) AllReadyH.nil
        go_simp
        go_wp2_with (go_at_call 63; (refine HTG.out.mono ?_; rintro e w4 ⟨rfl, rfl⟩))
        refine hK.out _ _ h8 (fun hHeld => ?_)
        clear hK K
        try simp only [Act.put, List.getElem_toArray, List.getElem_cons_zero, List.setIfInBounds_toArray, List.set_cons_zero, List.set_cons_succ]
        refine wpAnyH_ready (rs := [5]) (by kernel_rfl) (by simp) ?_
        refine AllReadyH.cons rfl (fun K hK => ?_) AllReadyH.nil
        go_simp
        go_wp2_with (go_at_call 62; (refine (HNG.out _).mono ?_; rintro e w4 ⟨rfl, rfl⟩))
        refine hK.out _ _ h8 (fun hHeld2 => ?_)
        clear hK K
        try simp only [Act.put, List.getElem_toArray, List.getElem_cons_zero, List.setIfInBounds_toArray, List.set_cons_zero, List.set_cons_succ]
        refine wpAnyH_take (i := 6) (v := ?_) rfl (by kernel_rfl) (by kernel_rfl) (by kernel_rfl) (fun _ _ _ h => h) (Or.inl ⟨by rfl, ?_⟩) (by assumption) ?_
        rotate_left
        · (intro w hSw; (try dsimp only at hSw); go_simp; try (with_reducible rfl))
        try simp only [Act.put, List.getElem_toArray, List.getElem_cons_succ, List.getElem_cons_zero, List.setIfInBounds_toArray, List.set_cons_zero, List.set_cons_succ]
        refine wpAnyH_ready (rs := [7]) (by kernel_rfl) (by simp) ?_
        refine AllReadyH.cons rfl (fun K hK => ?_) AllReadyH.nil
        go_simp
        refine hK.out _ _ ?_ (fun hHeld3 => ?_)
        · exact (World.cell?_of_block (Below.heap_setCell _ _ _ _ (by show B ≠ g; omega))).trans hcB
        clear hK K
        refine wpAnyH_done (by kernel_rfl) ?_ _
        gi_wp2
        have hfx2 : Fx (g + 2) (fun k => k = g) W ((W.setCell ⟨g, i, none⟩ (.int .u64 (z : Int))).drew) := ((Fx.refl (g + 2) (fun k => k = g) W).set_ (p := ⟨g, i, none⟩) (.inr rfl) _).drew
        refine ⟨(KeepsOthers.setCell W ⟨g, i, none⟩ (.int .u64 (z : Int))).trans (KeepsOthers.drew _), hfx2, ⟨L.set i z, HST.out.drew, by rw [List.length_set]; exact HLEN.out, Pl.Sm.set_ HSM.out i hzl, fun h => ?_⟩, HFX.out.trans hfx2⟩
        obtain ⟨h1, h2⟩ := HSE.out h
        have hb := HBK2.out h1
        rw [show u - pre.length = i + 1 by omega] at hb
        have hb2 := HSTEP.out L hb
        rw [← HS'.out, ← HZ.out] at hb2
        rw [List.length_append, List.length_singleton, show u - (pre.length + 1) = i by omega]
        exact hb2
      case done =>
        rintro D ys W hD ⟨hseen, hyl⟩ ⟨⟨L, har, hlen, hsm, hbck⟩, hfx⟩ hK
        have hb := hbck hseen
        rw [hyl, Nat.sub_self] at hb
        have hB4 : Blk W B 25 #[.slice (some ⟨g, 0, none⟩) U U] := (hfx.block B (by omega) (by show ¬ B = g; omega)).trans HB3.out
        have c1 : W.cell? ⟨B, 0, none⟩ = some (.slice (some ⟨g, 0, none⟩) U U) := hB4.cell 0
        have c2 := hB4.frozen 0
        have hDB : D ≠ B := by omega
        have hDg : D ≠ g := by omega
        have hK5 : (W.setCell ⟨B, 0, none⟩ (.slice (some ⟨g, 0, none⟩) U U)).heap[D]? = some (.deferred (some [])) := (Below.heap_setCell W ⟨B, 0, none⟩ _ D hDB).trans hK
        have har5 : Ar (W.setCell ⟨B, 0, none⟩ (.slice (some ⟨g, 0, none⟩) U U)) g L := (Below.heap_setCell W ⟨B, 0, none⟩ _ g (by show g ≠ B; omega)).trans har
        have hB5 : Blk (W.setCell ⟨B, 0, none⟩ (.slice (some ⟨g, 0, none⟩) U U)) B 25 #[.slice (some ⟨g, 0, none⟩) U U] := hB4.set_ 0 _
        have hfl : Below lo w3 W := hfx.below fun k hk => ⟨by omega, by show ¬ k = g; omega⟩
        have hbl5 : Below lo w (W.setCell ⟨B, 0, none⟩ (.slice (some ⟨g, 0, none⟩) U U)) := (HBL3.out.trans hfl).setCell (p := ⟨B, 0, none⟩) hloB _
        have HK5 := Lib.hid hK5
        have HAR5 := Lib.hid har5
        have HB5 := Lib.hid hB5
        have HBL5 := Lib.hid hbl5
        have HBK := Lib.hid hb
        have HLEN := Lib.hid hlen
        have HSM := Lib.hid hsm
        clear hK5 har5 hB5 hbl5 hb hlen hsm hbck hseen hyl har hfx hK hfl hB4
        go_wp2
        rw [Exit.noGoto_ret]
        refine ⟨by simp, .inl ⟨_, _, rfl, run_takeDeferred HK5.out, ?_⟩⟩
        have h9 : ∀ k, k ≠ D → ((W.setCell ⟨B, 0, none⟩ (.slice (some ⟨g, 0, none⟩) U U)).putObj D (.deferred none)).heap[k]? = (W.setCell ⟨B, 0, none⟩ (.slice (some ⟨g, 0, none⟩) U U)).heap[k]? := fun k hk => World.putObj_heap_other hk
        refine ⟨.tuple #[.slice (some ⟨g, 0, none⟩) U U, .bool true], run_cell_tmp (fn := Try.f47) (p := 4) (u := 5) rfl _ _ ⟨B, 0, none⟩ _ rfl ?_, ?_⟩
        · exact (World.cell?_of_block (a := ⟨B, 0, none⟩) (h9 B hDB.symm)).trans (HB5.out.cell 0)
        · refine ⟨.inl ⟨g, L, by rw [HU.out], hlog, (h9 g hDg.symm).trans HAR5.out, HLEN.out, HSM.out, HBK.out.one, HBK.out.done HE3.out⟩, ?_⟩
          have hp := HBL5.out
          exact ⟨hp.os, hp.tape, hp.output, Nat.le_trans hp.size (grownBy_putObj' _ _ _).size, fun k hk => (h9 k (by omega)).trans (hp.block k hk)⟩
      case stop =>
        rintro D c pre W _ _ h _
        exact h.elim
    | succ g =>
      rename World => wo
      have hjn : j < n := by omega
      have hrc := HS.out.gs.rows j hjn
      go_wp2
      go_loopg [25] u (fun g2 s25 wy => ∃ (i : Nat) (r : List Nat), i + g2 = u ∧ s25 = .int .i64 (i : Int) ∧ Hid (Inn u M0 M ρ j i r) ∧ Hid (Sx lo B R n u gs cs Ds w ρ (upd M j r) wy))
      case atStart => exact ⟨0, M j, by omega, rfl, Lib.hid (HE.out.inn hjn), Lib.hid (by rw [upd_id]; exact HS.out)⟩
      case round =>
        rename World => wy
        obtain ⟨i, r, hig, rfl, HI, HS2⟩ := hrel
        have hloy : lo ≤ wy.heap.size := by have := HS2.out.bel.size; omega
        have hgjB : gs j ≠ B := by have := HGL.out j hjn; omega
        have hrl : ∀ a, a ≤ u → wy.cell? ⟨gs j, a, none⟩ = some (.int .u64 ((r[a]?.getD 0 : Nat) : Int)) := fun a ha => by
          have h := HS2.out.gs.at_ (k := j) (i := a) hjn (by rw [Sk.upd_same, HI.out.len]; omega)
          rw [Sk.upd_same] at h
          exact h
        cases gk with
        | zero =>
          have hiu : i = u := by omega
          subst hiu
          have hrc := hrl i (Nat.le_refl _)
          have htl := HI.out.sm.get i
          obtain ⟨t, ht⟩ : ∃ t, t = r[i]?.getD 0 := ⟨_, rfl⟩
          rw [← ht] at hrc htl
          have HT := Lib.hid ht
          clear ht hrl
          have q0 : (0 : Int) ≤ (i : Int) := by omega
          have q1 : (i : Int) < (i : Int) + 1 := by omega
          by_cases h0 : t = 0
          · subst h0
            rw [Int.natCast_zero] at hrc
            go_wp2
            go_roundg g
            case rel => exact ⟨j + 1, ρ, upd M j r, by omega, by go_num, Lib.hid (HE.out.skip HI.out HT.out.symm), HS2⟩
            case measure => first | omega | simp
          · have hne : ((t : Int) == 0) = false := by rw [beq_eq_false_iff_ne]; omega
            have hne2 : ¬ (t : Int) = 0 := by omega
            have hbf := HS2.out.res.frozen 0
            have hbc : wy.cell? ⟨B, 0, none⟩ = some (.slice none 0 0) := HS2.out.res.cell 0
            have hbe : Below lo w (wy.setCell ⟨B, 0, none⟩ (.slice none 0 0)) := HS2.out.bel.setCell (p := ⟨B, 0, none⟩) hloB _
            have hcc := World.cell?_setCell_same' wy ⟨B, 0, none⟩ (.slice none 0 0) (by rw [hbc]; rfl)
            have HBL := Lib.hid hbe
            clear hbe
            go_wp2
            rw [Exit.noGoto_ret]
            refine ⟨.tuple #[.slice none 0 0, .bool false], run_cell_tmp (fn := Try.f47) (p := 4) (u := 5) rfl _ _ ⟨B, 0, none⟩ _ rfl hcc, .inr ⟨rfl, ?_⟩, HBL.out⟩
            exact HE.out.fail HI.out (by rw [← HT.out]; exact h0) hjn
        | succ g2 =>
          have hiu : i < u := by omega
          have hT := HS2.out.gs.tell hiu
          have hrow := hrl i (by omega)
          have htl := HI.out.sm.get i
          obtain ⟨t, ht⟩ : ∃ t, t = r[i]?.getD 0 := ⟨_, rfl⟩
          rw [← ht] at hrow htl
          have htl2 : t < 18446744073709551616 := by omega
          have HT := Lib.hid ht
          obtain ⟨kv, hkv⟩ : ∃ kv, kv = tv gs cs u (ρ i) := ⟨_, rfl⟩
          rw [← hkv] at hT
          have hrow1 : (wy.alloc (.cells #[kv] 25)).cell? ⟨gs j, i, none⟩ = some (.int .u64 (t : Int)) := cell_alloc_l _ hrow
          have hk1 := (cell_new_l wy kv 25).1
          have hk2 := cell_alloc_l (.cells #[.int .u64 (t : Int)] 22) hk1
          have ht2 := (cell_new_l (wy.alloc (.cells #[kv] 25)) (.int .u64 (t : Int)) 22).1
          rw [World.size_alloc] at ht2
          have hW2 : Below wy.heap.size wy ((wy.alloc (.cells #[kv] 25)).alloc (.cells #[.int .u64 (t : Int)] 22)) := ((Below.refl _ wy).alloc (Nat.le_refl _) _).alloc (by simp) _
          have HS3 := Lib.hid (HS2.out.below hloy hW2)
          have q0 : (0 : Int) ≤ (i : Int) := by omega
          have q1 : (i : Int) < (u : Int) := by omega
          have q2 : (i : Int) < (u : Int) + 1 := by omega
          have HW2 := Lib.hid hW2
          clear ht hrl hW2 hk1
          by_cases h0 : t = 0
          · subst h0
            rw [Int.natCast_zero] at hrow1 hk2 ht2 HS3
            have kvc : kv = .slice none 0 0 ∨ ∃ k, kv = .slice (some ⟨gs k, 0, none⟩) (u + 1) (cs k) := by
              rw [hkv]
              cases ρ i with
              | none => exact .inl rfl
              | some k => exact .inr ⟨k, rfl⟩
            clear hkv
            rcases kvc with rfl | ⟨k, rfl⟩
            · go_wp2
              go_roundg g2
              case rel => exact ⟨i + 1, r, by omega, by go_num, Lib.hid (HI.out.zero HT.out.symm), HS3⟩
              case measure => first | omega | simp
            · go_wp2
              go_roundg g2
              case rel => exact ⟨i + 1, r, by omega, by go_num, Lib.hid (HI.out.zero HT.out.symm), HS3⟩
              case measure => first | omega | simp
          · have hne : ((t : Int) == 0) = false := by rw [beq_eq_false_iff_ne]; omega
            have hne2 : ¬ (t : Int) = 0 := by omega
            cases hρ : ρ i with
            | none =>
              rw [hρ] at hkv
              replace hkv : kv = .slice none 0 0 := hkv
              subst hkv
              have hnil : ∀ W : World, (binOp .eql 25 (.slice none 0 0) (.slice none 0 0)).run Try.prog W = .ok (.bool true) W := fun W => Lib.run_eql_slice_nil W 25 22 none 0 0 0 0 Try.underlying25
              go_wp2_with fail
              refine (inv_any t _ htl2).mono ?_
              rintro e w3 ⟨rfl, hb3⟩
              obtain ⟨iv, hiv⟩ : ∃ iv, iv = Fld.pow t 2305843009213693949 := ⟨_, rfl⟩
              have hivl := Fld.pow_lt t 2305843009213693949
              rw [← hiv] at hivl ⊢
              have hs3 : Sx lo B R n u gs cs Ds w ρ (upd M j r) w3 := HS3.out.below (by have := HW2.out.size; omega) hb3
              have hlo3 : lo ≤ w3.heap.size := by have := HW2.out.size; have := hb3.size; omega
              have ht3 := (hb3.cell (p := ⟨wy.heap.size + 1, 0, none⟩) (by simp)).trans ht2
              have hs4 : Sx lo B R n u gs cs Ds w ρ (upd M j r) (w3.alloc (.cells #[.int .u64 (iv : Int)] 22)) := hs3.below hlo3 ((Below.refl _ w3).alloc (Nat.le_refl _) _)
              have hax4 : Ax (w3.alloc (.cells #[.int .u64 (iv : Int)] 22)) (gs j) r (Ds j) := by
                have h := hs4.gs.row j hjn
                rw [Sk.upd_same] at h
                exact h
              have hgl3 : gs j < w3.heap.size := by
                have h := Blk.lt (hs3.gs.row j hjn)
                exact h
              have hch := change1_any (gs j) (u + 1) (cs j) w3.heap.size iv r (Ds j) (w3.alloc (.cells #[.int .u64 (iv : Int)] 22)) hax4 HI.out.len.symm (by omega) HI.out.sm.big (cell_new_l w3 _ _).1 (by simp) (by omega) (by omega)
              have HCH := Lib.hid hch
              have HS4 := Lib.hid hs4
              have HIV := Lib.hid hiv
              have hlo4 : lo ≤ (w3.alloc (.cells #[.int .u64 (iv : Int)] 22)).heap.size := by simp; omega
              have HL4 := Lib.hid hlo4
              clear hch hs4 hax4 hs3 hb3 hiv hlo4 hrow1 hk2 hT hgl3
              go_wp2_with fail
              refine HCH.out.mono ?_
              rintro e w5 ⟨⟨r0, rfl⟩, hax5, hg5⟩
              have hs5 := HS4.out.change HGF.out hjn HL4.out hgjB hg5 hax5
              rw [upd_upd] at hs5
              have hf5 := hs5.gs.tel.frozen i
              have hc5 := hs5.gs.tell hiu
              rw [hρ] at hc5
              have hc5 : w5.cell? ⟨B + 1, i, none⟩ = some (.slice none 0 0) := hc5
              have hs6 := hs5.store (i := i) (j := j) HGF.out hloB
              have HS6 := Lib.hid hs6
              have hec := HE.out.put HI.out hiu hρ (by rw [← HT.out]; exact h0)
              rw [← HT.out, ← HIV.out] at hec
              have HEC2 := Lib.hid hec
              clear hs5 hs6 hec hax5 hg5
              go_wp2
              go_roundg g
              case rel => exact ⟨j + 1, _, _, by omega, by go_num, HEC2, HS6⟩
              case measure => first | omega | simp
            | some k =>
              rw [hρ] at hkv
              replace hkv : kv = .slice (some ⟨gs k, 0, none⟩) (u + 1) (cs k) := hkv
              subst hkv
              have hkj : k < j := (HE.out.tel i k hiu hρ).1
              have hkn : k < n := by omega
              have hMk : upd M j r k = M k := Sk.upd_ne M r (by omega)
              have hlk := HE.out.len k hkn
              have hax : Ax ((wy.alloc (.cells #[.slice (some ⟨gs k, 0, none⟩) (u + 1) (cs k)] 25)).alloc (.cells #[.int .u64 (t : Int)] 22)) (gs j) r (Ds j) := by
                have h := HS3.out.gs.row j hjn
                rw [Sk.upd_same] at h
                exact h
              have hrq := HS3.out.gs.rq HGF.out hkn hjn (by omega)
              rw [hMk] at hrq
              have hgly : gs j < wy.heap.size := by
                have h := Blk.lt (HS2.out.gs.row j hjn)
                exact h
              have hch := change2_any (gs j) (u + 1) (cs j) (wy.heap.size + 1) wy.heap.size t (cs k) (some ⟨gs k, 0, none⟩) (M k) r (Ds j) _ hax HI.out.len.symm hlk.1.symm (by omega) HI.out.sm.big hlk.2.big ht2 hk2 (by simp) (by omega) (by simp; omega) (by omega) htl2 hrq
              have HCH := Lib.hid hch
              have hinn := HI.out.sub HE.out hiu hρ
              rw [← HT.out] at hinn
              have HINN := Lib.hid hinn
              have hlo2 : lo ≤ ((wy.alloc (.cells #[.slice (some ⟨gs k, 0, none⟩) (u + 1) (cs k)] 25)).alloc (.cells #[.int .u64 (t : Int)] 22)).heap.size := by simp; omega
              have HL2 := Lib.hid hlo2
              have HKJ := Lib.hid hkj
              have hnil : ∀ W : World, (binOp .eql 25 (.slice (some ⟨gs k, 0, none⟩) (u + 1) (cs k)) (.slice none 0 0)).run Try.prog W = .ok (.bool false) W := fun W => Lib.run_eql_slice_nil W 25 22 (some ⟨gs k, 0, none⟩) (u + 1) (cs k) 0 0 Try.underlying25
              clear hch hrq hax hMk hlk hinn hlo2 hgly hkj hkn
              go_wp2_with fail
              refine HCH.out.mono ?_
              rintro e w5 ⟨⟨r0, rfl⟩, hax5, hg5⟩
              have hs5 := HS3.out.change HGF.out hjn HL2.out hgjB hg5 hax5
              rw [upd_upd] at hs5
              have HS5 := Lib.hid hs5
              clear hs5 hax5 hg5
              go_wp2
              go_roundg g2
              case rel => exact ⟨i + 1, _, by omega, by go_num, HINN, HS5⟩
              case measure => first | omega | simp
end Go.Proofs.Ytcbcmnbfflaicaa
