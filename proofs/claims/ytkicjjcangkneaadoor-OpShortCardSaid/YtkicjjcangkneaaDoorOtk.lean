/-
  Package op's Get: the operation of bytes, or what is wrong with them; fields of an operation in a variable written. For up to a million bytes.
-/
import Derived.Test.YtkicjjcangkneaaDoorOtj
import Derived.Deep.MidRow
namespace Go.Proofs.YtkicjjcangkneaaDoor
open Go.RowKit
attribute [local go_sem ↓] Go.wp_at_zero Go.wp_at_succ
set_option maxRecDepth 100000
namespace Ot
/-! ### fields of more than one cell -/
theorem sig_info : (Tryd.prog.info? 34).map (·.size) = some 2 := by kernel_rfl
theorem idn_info : (Tryd.prog.info? 29).map (·.size) = some 3 := by kernel_rfl
theorem Vr.there {w : World} {V : Nat} {o : LOp} (h : Vr w V o) (off n : Nat) (hn : off + n ≤ 27) : w.there V off n := fun i hi => by
  have h1 := Blk.cell h (off + i)
  have h2 := Blk.frozen h (off + i)
  rw [Array.getElem?_eq_getElem (by rw [o.size]; omega)] at h1
  exact ⟨by rw [h1]; rfl, h2⟩
theorem Vr.set {w : World} {V : Nat} {o : LOp} (h : Vr w V o) (i : Nat) (u : Value) (o' : LOp) (e : o.cells.setIfInBounds i u = o'.cells) : Vr (w.setCell ⟨V, i, none⟩ u) V o' := by
  have := Blk.set_ h i u
  rw [e] at this
  exact this
theorem wpList_store_sig {ops : Array Oper} {rest : List Oper} {op : Oper} {a : Act} {w : World} {Q : Exit → Act → World → Prop} (hgd : op.guard = none) (x y : Operand) (ho : op.op = .store 34 x y)
    {V r s : Nat} {o : LOp} (hx : a.eval x = .pointer (some ⟨V, 25, none⟩)) (hy : a.eval y = .agg #[.int .u64 (r : Int), .int .u64 (s : Int)]) (hV : Vr w V o)
    (h : ∀ w', Vr w' V { o with r := r, s := s } → w.grownBy w' (some V) → wpList Tryd.prog ops Q rest (a.put op.dst undef) w') : wpList Tryd.prog ops Q (op :: rest) a w :=
  wpList_store_mid hgd 34 x y ho V 25 _ hx hy (hV.there 25 2 (by omega)) sig_info (by simp [Value.oneCell'])
    (h _ ((hV.set 25 (.int .u64 (r : Int)) { o with r := r } rfl).set 26 (.int .u64 (s : Int)) { o with r := r, s := s } rfl) (only_set (only_set (only_refl _ _) 25 _) 26 _))
theorem wpList_store_epoch {ops : Array Oper} {rest : List Oper} {op : Oper} {a : Act} {w : World} {Q : Exit → Act → World → Prop} (hgd : op.guard = none) (x y : Operand) (ho : op.op = .store 29 x y)
    {V : Nat} {n : Pk.Nm} {o : LOp} (hx : a.eval x = .pointer (some ⟨V, 10, none⟩)) (hy : a.eval y = .agg #[.int .i64 n.a, .int .i64 n.b, .int .u64 (n.c : Int)]) (hV : Vr w V o)
    (h : ∀ w', Vr w' V { o with epoch := n } → w.grownBy w' (some V) → wpList Tryd.prog ops Q rest (a.put op.dst undef) w') : wpList Tryd.prog ops Q (op :: rest) a w :=
  wpList_store_mid hgd 29 x y ho V 10 _ hx hy (hV.there 10 3 (by omega)) idn_info (by simp [Value.oneCell'])
    (h _ (((hV.set 10 (.int .i64 n.a) { o with epoch := { o.epoch with a := n.a } } rfl).set 11 (.int .i64 n.b) { o with epoch := { o.epoch with a := n.a, b := n.b } } rfl).set 12 (.int .u64 (n.c : Int)) { o with epoch := n } rfl) (only_set (only_set (only_set (only_refl _ _) 10 _) 11 _) 12 _))
theorem wpList_store_of {ops : Array Oper} {rest : List Oper} {op : Oper} {a : Act} {w : World} {Q : Exit → Act → World → Prop} (hgd : op.guard = none) (x y : Operand) (ho : op.op = .store 29 x y)
    {V : Nat} {n : Pk.Nm} {o : LOp} (hx : a.eval x = .pointer (some ⟨V, 16, none⟩)) (hy : a.eval y = .agg #[.int .i64 n.a, .int .i64 n.b, .int .u64 (n.c : Int)]) (hV : Vr w V o)
    (h : ∀ w', Vr w' V { o with of_ := n } → w.grownBy w' (some V) → wpList Tryd.prog ops Q rest (a.put op.dst undef) w') : wpList Tryd.prog ops Q (op :: rest) a w :=
  wpList_store_mid hgd 29 x y ho V 16 _ hx hy (hV.there 16 3 (by omega)) idn_info (by simp [Value.oneCell'])
    (h _ (((hV.set 16 (.int .i64 n.a) { o with of_ := { o.of_ with a := n.a } } rfl).set 17 (.int .i64 n.b) { o with of_ := { o.of_ with a := n.a, b := n.b } } rfl).set 18 (.int .u64 (n.c : Int)) { o with of_ := n } rfl) (only_set (only_set (only_set (only_refl _ _) 16 _) 17 _) 18 _))
theorem build_zero (W : World) (f : Operand → Value) {o : Oper} (ho : o.op = .build 36 #[]) : (execOp f o).run Tryd.prog W = .ok (.value LOp.zero.v) W := exec_build (cells := LOp.zero.cells) 36 #[] ho (by kernel_rfl)

theorem zc : (#[.int .i64 0, .int .i64 0, .int .i64 0, .int .i64 0, .slice none 0 0, .int .i64 0, .int .i64 0, .int .i64 0, .int .i64 0, .slice none 0 0, .int .i64 0, .int .i64 0, .int .u64 0, .int .i64 0, .slice none 0 0, .slice none 0 0, .int .i64 0, .int .i64 0, .int .u64 0, .slice none 0 0, .int .i64 0, .int .i64 0, .slice none 0 0, .int .u64 0, .slice none 0 0, .int .u64 0, .int .u64 0] : Array Value) = LOp.zero.cells := rfl
/-- An operation in a variable, and a number: what is told. -/
theorem results_op_tmp {fn : Func} {p q t : Nat} (h : fn.results = #[.cell p t, .tmp q]) (ht : t = 36) (tmps : Array Value) {w : World} {V : Nat} {o : LOp} (z : Value)
    (hp : tmps.getD p undef = .pointer (some ⟨V, 0, none⟩)) (hq : tmps.getD q undef = z) (hV : Vr w V o) : (results fn tmps).run Tryd.prog w = .ok (.tuple #[o.v, z]) w := by
  subst ht
  have hl := run_loadVar_row (P := Tryd.prog) w V 36 36 o.cells (0, 0) _ hV op_under rfl (by rw [o.size]; exact op_info)
  have hp' : tmps[p]?.getD undef = .pointer (some ⟨V, 0, none⟩) := by simpa using hp
  have hq' : tmps[q]?.getD undef = z := by simpa using hq
  simp [results, h, hp', hq', asAddr, hl, LOp.v]
theorem results_op {fn : Func} {p t : Nat} (h : fn.results = #[.cell p t]) (ht : t = 36) (tmps : Array Value) {w : World} {V : Nat} {o : LOp}
    (hp : tmps.getD p undef = .pointer (some ⟨V, 0, none⟩)) (hV : Vr w V o) : (results fn tmps).run Tryd.prog w = .ok o.v w := by
  subst ht
  exact results_cell_row h tmps w V 36 o.cells (0, 0) _ hp hV op_under rfl (by rw [o.size]; exact op_info)
theorem wpList_build_zero {ops : Array Oper} {rest : List Oper} {op : Oper} {a : Act} {w : World} {Q : Exit → Act → World → Prop} (hgd : op.guard = none) (ho : op.op = .build 36 #[])
    (h : wpList Tryd.prog ops Q rest (a.put op.dst LOp.zero.v) w) : wpList Tryd.prog ops Q (op :: rest) a w := by
  have hz : Tryd.prog.built 36 [] = some LOp.zero.cells := by kernel_rfl
  refine wpList_build hgd 36 #[] ho (by simp [hz]) ?_
  simpa [hz, LOp.v] using h

/-! ### Get -/
theorem endd_wrong {l : List UInt8} {k1 k2 k3 : Nat} {e1 e2 e3 : Int} {t : Tup} {r s : Nat} (h1 : Rok pCon l 0 k1 0 e1 t) (h2 : Rok Pk.pNum l k1 k2 e1 e2 r) (h3 : Rok Pk.pNum l k2 k3 e2 e3 s) : endd l.length k3 e3 = wrong l ∧ (wrong l = 0 → ofTup (t, r, s) = (pOp l).v) := by
  have h := (h1.sq (h2.sq h3)).mp ofTup
  obtain ⟨a1, a2⟩ := h.2 rfl
  rw [List.drop_zero] at a1 a2
  have a1 : e3 = (pOp l).e := a1
  unfold endd wrong
  by_cases c : e3 = 0
  · obtain ⟨a3, a4⟩ := a2 c
    rw [Nat.zero_add] at a3
    have a3 : k3 = (pOp l).n := a3
    have a4 : ofTup (t, r, s) = (pOp l).v := a4
    rw [← a1, ← a3, if_pos c]
    refine ⟨?_, fun _ => a4⟩
    by_cases c2 : k3 < l.length
    · rw [if_pos ⟨c, c2⟩, if_pos c2]
    · rw [if_neg (fun h => c2 h.2), if_neg c2, c]
  · rw [← a1, if_neg c, if_neg (fun h => c h.1)]
    exact ⟨rfl, fun h => absurd h c⟩
/-- Outside of blocks n to m. -/
def Oth (n m k : Nat) : Prop := k < n ∨ m ≤ k
/-- What Get tells. -/
def Got (w : World) (l : List UInt8) (x : Ending) (w' : World) : Prop :=
  ∃ o : LOp, x = .returned (.tuple #[o.v, .int .i64 (wrong l)]) ∧ Lies No w' o ∧ Ok o.er ∧ (wrong l = 0 → o.er = (pOp l).v) ∧ (wrong l ≠ 0 → o = LOp.zero) ∧ Below w.heap.size w w'
theorem zero_ok : Ok LOp.zero.er := by
  have z : i64 0 := ⟨by decide, by decide⟩
  have u : u64 0 := by show (0 : Nat) < 18446744073709551616; omega
  have n : okNm ⟨0, 0, 0⟩ := ⟨z, z, u⟩
  exact ⟨z, z, z, z, ⟨Nat.zero_le _, fun _ h => nomatch h⟩, z, z, z, z, ⟨Nat.zero_le _, fun _ h => nomatch h⟩, n, z, Nat.zero_le _, ⟨Nat.zero_le _, fun _ h => nomatch h⟩, n, ⟨Nat.zero_le _, fun _ h => nomatch h⟩, z, z, ⟨Nat.zero_le _, fun _ h => nomatch h⟩, u, ⟨Nat.zero_le _, fun _ h => nomatch h⟩, u, u⟩
theorem Ok.sig {o : LOp} (h : Ok o.er) {r s : Nat} (hr : u64 r) (hs : u64 s) : Ok { o with r := r, s := s }.er :=
  ⟨h.by_, h.seq, h.kind, h.at_, h.past, h.dev, h.old, h.mem, h.role, h.path, h.epoch, h.n, h.body, h.refs, h.of_, h.guards, h.need, h.wait, h.boxes, h.pub, h.hist, hr, hs⟩
theorem Lies.sig {F : Nat → Prop} {w : World} {o : LOp} (h : Lies F w o) (r s : Nat) : Lies F w { o with r := r, s := s } := ⟨h.past, h.path, h.pathB, h.body, h.refs, h.guards, h.boxes, h.hist, h.histB⟩
theorem er_sig (o : LOp) (r s : Nat) : { o with r := r, s := s }.er = ofTup (o.er.tup, r, s) := rfl

set_option maxHeartbeats 4000000 in
theorem get_any {w : World} (b : Ls UInt8) (hb : Lz kU8 No w b) (hl : b.l.length ≤ 1000000) :
    Calls Tryd.prog 7 #[b.v] w (Got w b.l) := by
  obtain ⟨l, A, c⟩ := b
  obtain ⟨m, hm⟩ : ∃ m, m = l.length := ⟨_, rfl⟩
  have hb1 := hb.bf (Bf.alloc w (.cells LOp.zero.cells 36))
  have hop := open_any A l m c (w.alloc (.cells LOp.zero.cells 36)) hm (by rw [hm]; exact hl) hb1.rd8 (fun e => by
    obtain ⟨h1, h2⟩ := hb.none_ e
    exact ⟨by rw [hm]; exact h1, h2⟩)
  have HOP := Lib.hid hop
  have HR := Lib.hid (Vr.new w LOp.zero)
  have HB0 := Lib.hid ((Below.refl w.heap.size w).alloc (Nat.le_refl _) (.cells LOp.zero.cells 36))
  have hs0 : (w.alloc (.cells LOp.zero.cells 36)).heap.size = w.heap.size + 1 := by simp
  obtain ⟨w0, hw0⟩ : ∃ w0, w0 = w.alloc (.cells LOp.zero.cells 36) := ⟨_, rfl⟩
  rw [← hw0] at HOP HR HB0 hs0
  show Calls _ _ #[.slice A l.length c] w (Got w l)
  rw [← hm]
  have HW0 := Lib.hid hw0
  have HM := Lib.hid hm
  have HS0 := Lib.hid hs0
  clear hb hl hb1 hop hw0 hm hs0
  go_enter Tryd.func7, Tryd.ntmps7
  go_wp2_with fail
  rw [zc, ← HW0.out]
  refine (HOP.out).mono ?_
  rintro x w1 ⟨C, rfl, hC, hcu1, hb1⟩
  have HRD := Lib.hid (read_any hcu1)
  have HR1 := Lib.hid (Vr.below HR.out hb1 (by have := HS0.out; omega))
  have HB1 := Lib.hid (HB0.out.trans (hb1.mono (by have := HS0.out; omega)))
  have HC := Lib.hid (show w.heap.size < C by have := HS0.out; omega)
  have HL := Lib.hid (show C < w1.heap.size from hcu1.lt)
  clear hcu1 hb1 hC HOP HR HB0
  go_wp2_with fail
  refine (HRD.out).mono ?_
  rintro x w2 ⟨o, rfl, hlies, hok, hr0, hs0, k1, e1, hcu2, hrok, hg2⟩
  have HLI := Lib.hid hlies
  have HOK := Lib.hid hok
  have HRO := Lib.hid hrok
  have HR2 := Lib.hid (show Vr w2 w.heap.size LOp.zero from blk_grown HR1.out hg2 (fun eg => by injection eg with eg; have := HC.out; omega))
  have HB2 := Lib.hid (HB1.out.grown hg2 (by have := HB1.out.size; omega) (fun j ej => by injection ej with ej; have := HC.out; omega))
  have HS2 := Lib.hid (show w1.heap.size ≤ w2.heap.size from hg2.size)
  have HCU2 := Lib.hid hcu2
  obtain ⟨ov, hov⟩ : ∃ ov, ov = o.v := ⟨_, rfl⟩
  rw [← hov]
  have HOV := Lib.hid hov
  have HV5 := Lib.hid (Vr.new w2 LOp.zero)
  clear hlies hok hrok hg2 hcu2 HRD HR1 HB1 hov hr0 hs0
  go_wp2_with (refine wpList_store_op rfl _ _ rfl rfl HOV.out HV5.out ?_)
  obtain ⟨w3, hw3⟩ : ∃ w3, w3 = (w2.alloc (.cells LOp.zero.cells 36)).setRow w2.heap.size o.cells := ⟨_, rfl⟩
  have hv3 : Vr w3 w2.heap.size o := hw3 ▸ HV5.out.setRow o
  have hbf : Bf (fun k => k = w2.heap.size) w2 w3 := by
    rw [hw3]
    exact (Bf.alloc w2 _).trans (Bf.setRow _ rfl)
  have hg3 : w2.grownBy w3 none := by
    rw [hw3]
    exact (World.grownBy_alloc w2 _ none).andThen (grown_setRow _ _ _) fun j ej => by injection ej with ej; exact .inl (by omega)
  have hcu3 : Cu C 78 w3 C l k1 e1 := HCU2.out.grown hg3 fun g eg => by cases eg
  have hr3 : Vr w3 w.heap.size LOp.zero := blk_grown HR2.out hg3 (fun eg => by cases eg)
  have HLI3 := Lib.hid ((HLI.out.weak (G := Oth w1.heap.size w2.heap.size) fun k hk h => h.elim id fun h => by omega).bf (Bf.grown hg3 fun g eg => by cases eg))
  have HB3 := Lib.hid (HB2.out.grown hg3 (by have := HB2.out.size; omega) (fun j ej => by cases ej))
  have HS3 := Lib.hid (show w2.heap.size < w3.heap.size from Blk.lt hv3)
  rw [zc, ← hw3]
  have HRD := Lib.hid (rd_num hcu3)
  have HV3 := Lib.hid hv3
  have HR3 := Lib.hid hr3
  have hCV : C ≠ w2.heap.size := by have := HL.out; have := HS2.out; omega
  have hRV : w.heap.size ≠ w2.heap.size := by have := HL.out; have := HS2.out; have := HC.out; omega
  have hRC : w.heap.size ≠ C := by have := HC.out; omega
  have HLT := Lib.hid (show C < w1.heap.size ∧ w1.heap.size ≤ w2.heap.size ∧ w.heap.size < C from ⟨HL.out, HS2.out, HC.out⟩)
  clear hw3 hv3 hbf hg3 hcu3 hr3 HV5 HCU2 HR2 HLI HB2 HL HS2 HC
  go_wp2_with fail
  refine (HRD.out).mono ?_
  rintro x w4 ⟨r, rfl, hr, k2, e2, hcu4, hrok2, hg4⟩
  have HRR := Lib.hid hr
  have HRO2 := Lib.hid hrok2
  have HV4 := Lib.hid (show Vr w4 w2.heap.size o from blk_grown HV3.out hg4 (fun eg => by injection eg with eg; exact hCV eg.symm))
  have HR4 := Lib.hid (show Vr w4 w.heap.size LOp.zero from blk_grown HR3.out hg4 (fun eg => by injection eg with eg; exact hRC eg))
  have HLI4 := Lib.hid (HLI3.out.bf (Bf.grown hg4 fun g eg => by injection eg with eg; exact .inl (eg ▸ HLT.out.1)))
  have HB4 := Lib.hid (HB3.out.grown hg4 (by have := HB3.out.size; omega) (fun j ej => by injection ej with ej; have := HLT.out.2.2; omega))
  have HRD2 := Lib.hid (rd_num hcu4)
  clear hr hcu4 hrok2 hg4 HV3 HR3 HLI3 HB3 HRD
  go_wp2_with fail
  refine (HRD2.out).mono ?_
  rintro x w5 ⟨s, rfl, hs, k3, e3, hcu5, hrok3, hg5⟩
  have HSS := Lib.hid hs
  have HRO3 := Lib.hid hrok3
  have HV5 := Lib.hid (show Vr w5 w2.heap.size o from blk_grown HV4.out hg5 (fun eg => by injection eg with eg; exact hCV eg.symm))
  have HR5 := Lib.hid (show Vr w5 w.heap.size LOp.zero from blk_grown HR4.out hg5 (fun eg => by injection eg with eg; exact hRC eg))
  have HLI5 := Lib.hid (HLI4.out.bf (Bf.grown hg5 fun g eg => by injection eg with eg; exact .inl (eg ▸ HLT.out.1)))
  have HB5 := Lib.hid (HB4.out.grown hg5 (by have := HB4.out.size; omega) (fun j ej => by injection ej with ej; have := HLT.out.2.2; omega))
  have HCU5 := Lib.hid hcu5
  clear hs hcu5 hrok3 hg5 HV4 HR4 HLI4 HB4 HRD2
  go_wp2_with (refine wpList_store_sig rfl _ _ rfl rfl rfl HV5.out ?_; intro w6 hv6 hg6; have HV6 := Lib.hid hv6; have HG6 := Lib.hid hg6; clear hv6 hg6)
  have hcu6 := HCU5.out.grown HG6.out fun g eg => by injection eg with eg; have := HLT.out; omega
  have HR6 := Lib.hid (show Vr w6 w.heap.size LOp.zero from blk_grown HR5.out HG6.out (fun eg => by injection eg with eg; exact hRV eg))
  have HLI6 := Lib.hid (HLI5.out.bf (Bf.grown HG6.out fun g eg => by injection eg with eg; exact .inr (Nat.le_of_eq eg)))
  have HB6 := Lib.hid (HB5.out.grown HG6.out (by have := HB5.out.size; omega) (fun j ej => by injection ej with ej; have := HLT.out; omega))
  have HEN := Lib.hid (in_end hcu6)
  have hew := endd_wrong HRO.out HRO2.out HRO3.out
  have HEW := Lib.hid hew
  clear hew hcu6 HCU5 HLI5 HR5 HV5 HB5
  obtain ⟨z, hz⟩ : ∃ z, z = wrong l := ⟨_, rfl⟩
  rw [HEW.out.1, ← hz] at HEN
  have HZ := Lib.hid hz
  clear hz
  go_wp2_with fail
  refine (HEN.out).mono ?_
  rintro x w7 ⟨rfl, n, rfl⟩
  have HR7 := Lib.hid (show Vr (w6.drewN n) w.heap.size LOp.zero from HR6.out)
  have HV7 := Lib.hid (show Vr (w6.drewN n) w2.heap.size { o with r := r, s := s } from HV6.out)
  have HLI7 := Lib.hid (show Lies (Oth w1.heap.size w2.heap.size) (w6.drewN n) o from HLI6.out.bf ⟨rfl, rfl, rfl, Nat.le_refl _, fun _ _ _ => rfl⟩)
  have HB7 := Lib.hid (show Below w.heap.size w (w6.drewN n) from ⟨HB6.out.os, HB6.out.tape, HB6.out.output, HB6.out.size, HB6.out.block⟩)
  obtain ⟨w7, hw7⟩ : ∃ w7, w7 = w6.drewN n := ⟨_, rfl⟩
  rw [← hw7] at HR7 HV7 HLI7 HB7 ⊢
  obtain ⟨o2, ho2⟩ : ∃ o2 : LOp, o2 = { o with r := r, s := s } := ⟨_, rfl⟩
  rw [← ho2] at HV7
  have HO2 := Lib.hid ho2
  clear HEN HR6 HV6 HLI6 HB6 hw7 ho2
  by_cases hq0 : z = 0
  · have hq : (z != 0) = false := by rw [hq0]; rfl
    have hq1 : (z == 0) = true := by rw [hq0]; rfl
    have HQ := Lib.hid hq0
    clear hq0
    go_wp2_with (first | refine wpList_load_op rfl _ rfl rfl HV7.out ?_ | (refine wpList_store_op rfl _ _ rfl rfl rfl HR7.out ?_))
    have hvr := HR7.out.setRow o2
    have hbr : Below w.heap.size w (w7.setRow w.heap.size o2.cells) := HB7.out.grown (grown_setRow _ _ _) (by have := HB7.out.size; omega) (fun j ej => by injection ej with ej; omega)
    have hlr := (HLI7.out.bf (Bf.grown (grown_setRow w7 w.heap.size o2.cells) fun g eg => by injection eg with eg; have := HLT.out; exact .inl (by omega))).no
    refine bodyPost_ret (v := .tuple #[o2.v, .int .i64 0]) (results_op_tmp rfl rfl _ _ rfl rfl hvr) rfl ?_
    have hz := HZ.out
    have hz0 := HQ.out
    rw [hz] at hz0
    refine ⟨o2, by rw [hz0], ?_, ?_, fun h => ?_, fun h => absurd hz0 h, hbr⟩
    · rw [HO2.out]; exact (HO2.out ▸ hlr).sig r s
    · rw [HO2.out]; exact HOK.out.sig HRR.out HSS.out
    · rw [HO2.out, er_sig]; exact HEW.out.2 h
  · have hq : (z != 0) = true := by rw [bne_iff_ne]; exact hq0
    have hq1 : (z == 0) = false := by rw [beq_eq_false_iff_ne]; exact hq0
    have HQ := Lib.hid hq0
    clear hq0
    go_wp2_with (first | refine wpList_build_zero rfl rfl ?_ | (refine wpList_store_op rfl _ _ rfl rfl rfl HR7.out ?_))
    have hvr := HR7.out.setRow LOp.zero
    have hbr : Below w.heap.size w (w7.setRow w.heap.size LOp.zero.cells) := HB7.out.grown (grown_setRow _ _ _) (by have := HB7.out.size; omega) (fun j ej => by injection ej with ej; omega)
    refine bodyPost_ret (v := .tuple #[LOp.zero.v, .int .i64 z]) (results_op_tmp rfl rfl _ _ rfl rfl hvr) rfl ?_
    have hz := HZ.out
    exact ⟨LOp.zero, by rw [hz], Lies.zero No _, zero_ok, fun h => absurd (hz.trans h) HQ.out, fun _ => rfl, hbr⟩
end Ot
end Go.Proofs.YtkicjjcangkneaaDoor
