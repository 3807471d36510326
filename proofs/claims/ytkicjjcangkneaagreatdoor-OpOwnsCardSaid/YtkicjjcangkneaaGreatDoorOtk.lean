/-
  Package op's Get: the operation of bytes, or what is wrong with them; fields of an operation in a variable written. For up to a million bytes.
-/
import Derived.Test.YtkicjjcangkneaaGreatDoorOtj
import Derived.Deep.MidRow
namespace Go.Proofs.YtkicjjcangkneaaGreatDoor
open Go.RowKit
attribute [local go_sem ↓] Go.wp_at_zero Go.wp_at_succ
set_option maxRecDepth 100000
namespace Ot
/-! ### fields of more than one cell -/
theorem sig_info : (Tryz.prog.info? 33).map (·.size) = some 2 := by kernel_rfl
theorem idn_info : (Tryz.prog.info? 27).map (·.size) = some 3 := by kernel_rfl
theorem Vr.there {w : World} {V : Nat} {o : LOp} (h : Vr w V o) (off n : Nat) (hn : off + n ≤ 27) : w.there V off n := fun i hi => by
  have h1 := Blk.cell h (off + i)
  have h2 := Blk.frozen h (off + i)
  rw [Array.getElem?_eq_getElem (by rw [o.size]; omega)] at h1
  exact ⟨by rw [h1]; rfl, h2⟩
theorem Vr.set {w : World} {V : Nat} {o : LOp} (h : Vr w V o) (i : Nat) (u : Value) (o' : LOp) (e : o.cells.setIfInBounds i u = o'.cells) : Vr (w.setCell ⟨V, i, none⟩ u) V o' := by
  have := Blk.set_ h i u
  rw [e] at this
  exact this
theorem wpList_store_sig {ops : Array Oper} {rest : List Oper} {op : Oper} {a : Act} {w : World} {Q : Exit → Act → World → Prop} (hgd : op.guard = none) (x y : Operand) (ho : op.op = .store 33 x y)
    {V r s : Nat} {o : LOp} (hx : a.eval x = .pointer (some ⟨V, 25, none⟩)) (hy : a.eval y = .agg #[.int .u64 (r : Int), .int .u64 (s : Int)]) (hV : Vr w V o)
    (h : ∀ w', Vr w' V { o with r := r, s := s } → w.grownBy w' (some V) → wpList Tryz.prog ops Q rest (a.put op.dst undef) w') : wpList Tryz.prog ops Q (op :: rest) a w :=
  wpList_store_mid hgd 33 x y ho V 25 _ hx hy (hV.there 25 2 (by omega)) sig_info (by simp [Value.oneCell'])
    (h _ ((hV.set 25 (.int .u64 (r : Int)) { o with r := r } rfl).set 26 (.int .u64 (s : Int)) { o with r := r, s := s } rfl) (only_set (only_set (only_refl _ _) 25 _) 26 _))
theorem wpList_store_epoch {ops : Array Oper} {rest : List Oper} {op : Oper} {a : Act} {w : World} {Q : Exit → Act → World → Prop} (hgd : op.guard = none) (x y : Operand) (ho : op.op = .store 27 x y)
    {V : Nat} {n : Pk.Nm} {o : LOp} (hx : a.eval x = .pointer (some ⟨V, 10, none⟩)) (hy : a.eval y = .agg #[.int .i64 n.a, .int .i64 n.b, .int .u64 (n.c : Int)]) (hV : Vr w V o)
    (h : ∀ w', Vr w' V { o with epoch := n } → w.grownBy w' (some V) → wpList Tryz.prog ops Q rest (a.put op.dst undef) w') : wpList Tryz.prog ops Q (op :: rest) a w :=
  wpList_store_mid hgd 27 x y ho V 10 _ hx hy (hV.there 10 3 (by omega)) idn_info (by simp [Value.oneCell'])
    (h _ (((hV.set 10 (.int .i64 n.a) { o with epoch := { o.epoch with a := n.a } } rfl).set 11 (.int .i64 n.b) { o with epoch := { o.epoch with a := n.a, b := n.b } } rfl).set 12 (.int .u64 (n.c : Int)) { o with epoch := n } rfl) (only_set (only_set (only_set (only_refl _ _) 10 _) 11 _) 12 _))
theorem wpList_store_of {ops : Array Oper} {rest : List Oper} {op : Oper} {a : Act} {w : World} {Q : Exit → Act → World → Prop} (hgd : op.guard = none) (x y : Operand) (ho : op.op = .store 27 x y)
    {V : Nat} {n : Pk.Nm} {o : LOp} (hx : a.eval x = .pointer (some ⟨V, 16, none⟩)) (hy : a.eval y = .agg #[.int .i64 n.a, .int .i64 n.b, .int .u64 (n.c : Int)]) (hV : Vr w V o)
    (h : ∀ w', Vr w' V { o with of_ := n } → w.grownBy w' (some V) → wpList Tryz.prog ops Q rest (a.put op.dst undef) w') : wpList Tryz.prog ops Q (op :: rest) a w :=
  wpList_store_mid hgd 27 x y ho V 16 _ hx hy (hV.there 16 3 (by omega)) idn_info (by simp [Value.oneCell'])
    (h _ (((hV.set 16 (.int .i64 n.a) { o with of_ := { o.of_ with a := n.a } } rfl).set 17 (.int .i64 n.b) { o with of_ := { o.of_ with a := n.a, b := n.b } } rfl).set 18 (.int .u64 (n.c : Int)) { o with of_ := n } rfl) (only_set (only_set (only_set (only_refl _ _) 16 _) 17 _) 18 _))
theorem build_zero (W : World) (f : Operand → Value) {o : Oper} (ho : o.op = .build 35 #[]) : (execOp f o).run Tryz.prog W = .ok (.value LOp.zero.v) W := exec_build (cells := LOp.zero.cells) 35 #[] ho (by kernel_rfl)

theorem zc : (#[.int .i64 0, .int .i64 0, .int .i64 0, .int .i64 0, .slice none 0 0, .int .i64 0, .int .i64 0, .int .i64 0, .int .i64 0, .slice none 0 0, .int .i64 0, .int .i64 0, .int .u64 0, .int .i64 0, .slice none 0 0, .slice none 0 0, .int .i64 0, .int .i64 0, .int .u64 0, .slice none 0 0, .int .i64 0, .int .i64 0, .slice none 0 0, .int .u64 0, .slice none 0 0, .int .u64 0, .int .u64 0] : Array Value) = LOp.zero.cells := rfl
/-- An operation in a variable, and a number: what is told. -/
theorem results_op_tmp {fn : Func} {p q t : Nat} (h : fn.results = #[.cell p t, .tmp q]) (ht : t = 35) (tmps : Array Value) {w : World} {V : Nat} {o : LOp} (z : Value)
    (hp : tmps.getD p undef = .pointer (some ⟨V, 0, none⟩)) (hq : tmps.getD q undef = z) (hV : Vr w V o) : (results fn tmps).run Tryz.prog w = .ok (.tuple #[o.v, z]) w := by
  subst ht
  have hl := run_loadVar_row (P := Tryz.prog) w V 35 35 o.cells (0, 0) _ hV op_under rfl (by rw [o.size]; exact op_info)
  have hp' : tmps[p]?.getD undef = .pointer (some ⟨V, 0, none⟩) := by simpa using hp
  have hq' : tmps[q]?.getD undef = z := by simpa using hq
  simp [results, h, hp', hq', asAddr, hl, LOp.v]
theorem results_op {fn : Func} {p t : Nat} (h : fn.results = #[.cell p t]) (ht : t = 35) (tmps : Array Value) {w : World} {V : Nat} {o : LOp}
    (hp : tmps.getD p undef = .pointer (some ⟨V, 0, none⟩)) (hV : Vr w V o) : (results fn tmps).run Tryz.prog w = .ok o.v w := by
  subst ht
  exact results_cell_row h tmps w V 35 o.cells (0, 0) _ hp hV op_under rfl (by rw [o.size]; exact op_info)
theorem wpList_build_zero {ops : Array Oper} {rest : List Oper} {op : Oper} {a : Act} {w : World} {Q : Exit → Act → World → Prop} (hgd : op.guard = none) (ho : op.op = .build 35 #[])
    (h : wpList Tryz.prog ops Q rest (a.put op.dst LOp.zero.v) w) : wpList Tryz.prog ops Q (op :: rest) a w := by
  have hz : Tryz.prog.built 35 [] = some LOp.zero.cells := by kernel_rfl
  refine wpList_build hgd 35 #[] ho (by simp [hz]) ?_
  simpa [hz, LOp.v] using h

/-! ### Get -/
theorem endd_wrong {l : List UInt8} {k1 k2 k3 : Nat} {e1 e2 e3 : Int} {t : Tup} {r s : Nat} (h1 : Rok pCon l 0 k1 0 e1 t) (h2 : Rok Pk.pNum l k1 k2 e1 e2 r) (h3 : Rok Pk.pNum l k2 k3 e2 e3 s) : endd l.length k3 e3 = wrong l ∧ (wrong l = 0 → ofTup (t, r, s) = (pOp l).v) := by
  have h := (h1.sq (h2.sq h3)).mp ofTup
  obtain ⟨a1, a2⟩ := h.2 rfl
  rw [List.drop_zero] at a1 a2
  have a1 : e3 = (pOp l).e := a1
  unfold endd wrong
  by_cases c : e3 = 0
  · obtain ⟨a3, a4⟩ := a2 c
    rw [Nat.zero_add] at a3
    have a3 : k3 = (pOp l).n := a3
    have a4 : ofTup (t, r, s) = (pOp l).v := a4
    rw [← a1, ← a3, if_pos c]
    refine ⟨?_, fun _ => a4⟩
    by_cases c2 : k3 < l.length
    · rw [if_pos ⟨c, c2⟩, if_pos c2]
    · rw [if_neg (fun h => c2 h.2), if_neg c2, c]
  · rw [← a1, if_neg c, if_neg (fun h => c h.1)]
    exact ⟨rfl, fun h => absurd h c⟩
/-- Outside of blocks n to m. -/
def Oth (n m k : Nat) : Prop := k < n ∨ m ≤ k
/-- What Get tells. -/
def Got (w : World) (l : List UInt8) (x : Ending) (w' : World) : Prop :=
  ∃ o : LOp, x = .returned (.tuple #[o.v, .int .i64 (wrong l)]) ∧ Lies No w' o ∧ Ok o.er ∧ (wrong l = 0 → o.er = (pOp l).v) ∧ (wrong l ≠ 0 → o = LOp.zero) ∧ Below w.heap.size w w'
theorem zero_ok : Ok LOp.zero.er := by
  have z : i64 0 := ⟨by decide, by decide⟩
  have u : u64 0 := by show (0 : Nat) < 18446744073709551616; omega
  have n : okNm ⟨0, 0, 0⟩ := ⟨z, z, u⟩
  exact ⟨z, z, z, z, ⟨Nat.zero_le _, fun _ h => nomatch h⟩, z, z, z, z, ⟨Nat.zero_le _, fun _ h => nomatch h⟩, n, z, Nat.zero_le _, ⟨Nat.zero_le _, fun _ h => nomatch h⟩, n, ⟨Nat.zero_le _, fun _ h => nomatch h⟩, z, z, ⟨Nat.zero_le _, fun _ h => nomatch h⟩, u, ⟨Nat.zero_le _, fun _ h => nomatch h⟩, u, u⟩
theorem Ok.sig {o : LOp} (h : Ok o.er) {r s : Nat} (hr : u64 r) (hs : u64 s) : Ok { o with r := r, s := s }.er :=
  ⟨h.by_, h.seq, h.kind, h.at_, h.past, h.dev, h.old, h.mem, h.role, h.path, h.epoch, h.n, h.body, h.refs, h.of_, h.guards, h.need, h.wait, h.boxes, h.pub, h.hist, hr, hs⟩
theorem Lies.sig {F : Nat → Prop} {w : World} {o : LOp} (h : Lies F w o) (r s : Nat) : Lies F w { o with r := r, s := s } := ⟨h.past, h.path, h.pathB, h.body, h.refs, h.guards, h.boxes, h.hist, h.histB⟩
theorem er_sig (o : LOp) (r s : Nat) : { o with r := r, s := s }.er = ofTup (o.er.tup, r, s) := rfl

end Ot
end Go.Proofs.YtkicjjcangkneaaGreatDoor
