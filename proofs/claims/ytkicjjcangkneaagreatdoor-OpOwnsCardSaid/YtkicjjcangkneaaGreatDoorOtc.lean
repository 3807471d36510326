/-
  An operation in memory: its fields, and its lists, each where it lies. No condition.
-/
import Derived.Test.YtkicjjcangkneaaGreatDoorOtb
namespace Go.Proofs.YtkicjjcangkneaaGreatDoor
open Go.RowKit
set_option maxRecDepth 100000
namespace Ot

/-! ### the kinds -/
structure LNd where
  pub : Nat
  boxes : Ls Bx
structure LSd where
  nm : Pk.Nm
  body : Ls UInt8
def LNd.er (n : LNd) : Nd := ⟨n.pub, n.boxes.l⟩
def LSd.er (s : LSd) : Sd := ⟨s.nm, s.body.l⟩
def kNm : Kd Pk.Nm := ⟨fun x => [.int .i64 x.a, .int .i64 x.b, .int .u64 (x.c : Int)], 3, 27, fun _ => rfl, fun x u hu => by simp at hu; rcases hu with rfl | rfl | rfl <;> rfl⟩
def kBx : Kd Bx := ⟨fun x => [.int .u64 (x.dst : Int), .int .u64 (x.eph : Int), .int .u64 (x.body : Int), .int .u64 (x.tag : Int)], 4, 68, fun _ => rfl, fun x u hu => by simp at hu; rcases hu with rfl | rfl | rfl | rfl <;> rfl⟩
def kNd : Kd LNd := ⟨fun x => [.int .u64 (x.pub : Int), x.boxes.v], 2, 66, fun _ => rfl, fun x u hu => by simp at hu; rcases hu with rfl | rfl <;> rfl⟩
def kSd : Kd LSd := ⟨fun x => [.int .i64 x.nm.a, .int .i64 x.nm.b, .int .u64 (x.nm.c : Int), x.body.v], 4, 81, fun _ => rfl, fun x u hu => by simp at hu; rcases hu with rfl | rfl | rfl | rfl <;> rfl⟩
def kU64 : Kd Nat := ⟨fun x => [.int .u64 (x : Int)], 1, 25, fun _ => rfl, fun x u hu => by simp at hu; rw [hu]; rfl⟩
def kInt : Kd Int := ⟨fun x => [.int .i64 x], 1, 3, fun _ => rfl, fun x u hu => by simp at hu; rw [hu]; rfl⟩
def kU8 : Kd UInt8 := ⟨fun x => [.int .u8 (x.toNat : Int)], 1, 5, fun _ => rfl, fun x u hu => by simp at hu; rw [hu]; rfl⟩
theorem cells_u8 (l : List UInt8) : kU8.cells l = u8s l := by
  induction l with
  | nil => rfl
  | cons x l ih => rw [kU8.cells_cons, ih]; rfl
theorem cells_u64 (l : List Nat) : kU64.cells l = u64s l := by
  induction l with
  | nil => rfl
  | cons x l ih => rw [kU64.cells_cons, ih]; rfl
theorem ki_nm : Nonempty (KI Tryz.prog kNm 23) := KI.of Tryz.underlying23 (z := .agg #[.int .i64 0, .int .i64 0, .int .u64 0]) (bytes := 24) (by kernel_rfl) rfl (by decide) (by decide)
theorem ki_bx : Nonempty (KI Tryz.prog kBx 30) := KI.of Tryz.underlying30 (z := .agg #[.int .u64 0, .int .u64 0, .int .u64 0, .int .u64 0]) (bytes := 32) (by kernel_rfl) rfl (by decide) (by decide)
theorem ki_nd : Nonempty (KI Tryz.prog kNd 24) := KI.of Tryz.underlying24 (z := .agg #[.int .u64 0, .slice none 0 0]) (bytes := 32) (by kernel_rfl) rfl (by decide) (by decide)
theorem ki_sd : Nonempty (KI Tryz.prog kSd 31) := KI.of Tryz.underlying31 (z := .agg #[.int .i64 0, .int .i64 0, .int .u64 0, .slice none 0 0]) (bytes := 48) (by kernel_rfl) rfl (by decide) (by decide)
theorem ki_u64 : Nonempty (KI Tryz.prog kU64 29) := KI.of Tryz.underlying29 (z := .int .u64 0) (bytes := 8) (by kernel_rfl) rfl (by decide) (by decide)
theorem ki_int : Nonempty (KI Tryz.prog kInt 22) := KI.of Tryz.underlying22 (z := .int .i64 0) (bytes := 8) (by kernel_rfl) rfl (by decide) (by decide)
theorem ki_u8 : Nonempty (KI Tryz.prog kU8 28) := KI.of Tryz.underlying28 (z := .int .u8 0) (bytes := 1) (by kernel_rfl) rfl (by decide) (by decide)

/-! ### items in memory -/
theorem Lz.nm {F : Nat → Prop} {w : World} {x : Ls Pk.Nm} (h : Lz kNm F w x) {i : Nat} {y : Pk.Nm} (hi : x.l[i]? = some y) : ∃ b off, x.A = some ⟨b, off, none⟩ ∧ b < w.heap.size ∧ i < x.l.length ∧ w.cell? ⟨b, off + i * 3, none⟩ = some (.int .i64 y.a) ∧ w.cell? ⟨b, off + i * 3 + 1, none⟩ = some (.int .i64 y.b) ∧ w.cell? ⟨b, off + i * 3 + 2, none⟩ = some (.int .u64 (y.c : Int)) := by
  obtain ⟨b, off, e, h1, h2, h3⟩ := h.at_ hi
  exact ⟨b, off, e, h1, h2, h3 0 _ rfl, h3 1 _ rfl, h3 2 _ rfl⟩
theorem Lz.bx {F : Nat → Prop} {w : World} {x : Ls Bx} (h : Lz kBx F w x) {i : Nat} {y : Bx} (hi : x.l[i]? = some y) : ∃ b off, x.A = some ⟨b, off, none⟩ ∧ b < w.heap.size ∧ i < x.l.length ∧ w.cell? ⟨b, off + i * 4, none⟩ = some (.int .u64 (y.dst : Int)) ∧ w.cell? ⟨b, off + i * 4 + 1, none⟩ = some (.int .u64 (y.eph : Int)) ∧ w.cell? ⟨b, off + i * 4 + 2, none⟩ = some (.int .u64 (y.body : Int)) ∧ w.cell? ⟨b, off + i * 4 + 3, none⟩ = some (.int .u64 (y.tag : Int)) := by
  obtain ⟨b, off, e, h1, h2, h3⟩ := h.at_ hi
  exact ⟨b, off, e, h1, h2, h3 0 _ rfl, h3 1 _ rfl, h3 2 _ rfl, h3 3 _ rfl⟩
theorem Lz.nd {F : Nat → Prop} {w : World} {x : Ls LNd} (h : Lz kNd F w x) {i : Nat} {y : LNd} (hi : x.l[i]? = some y) : ∃ b off, x.A = some ⟨b, off, none⟩ ∧ b < w.heap.size ∧ i < x.l.length ∧ w.cell? ⟨b, off + i * 2, none⟩ = some (.int .u64 (y.pub : Int)) ∧ w.cell? ⟨b, off + i * 2 + 1, none⟩ = some (.slice y.boxes.A y.boxes.l.length y.boxes.c) := by
  obtain ⟨b, off, e, h1, h2, h3⟩ := h.at_ hi
  exact ⟨b, off, e, h1, h2, h3 0 _ rfl, h3 1 _ rfl⟩
theorem Lz.sd {F : Nat → Prop} {w : World} {x : Ls LSd} (h : Lz kSd F w x) {i : Nat} {y : LSd} (hi : x.l[i]? = some y) : ∃ b off, x.A = some ⟨b, off, none⟩ ∧ b < w.heap.size ∧ i < x.l.length ∧ w.cell? ⟨b, off + i * 4, none⟩ = some (.int .i64 y.nm.a) ∧ w.cell? ⟨b, off + i * 4 + 1, none⟩ = some (.int .i64 y.nm.b) ∧ w.cell? ⟨b, off + i * 4 + 2, none⟩ = some (.int .u64 (y.nm.c : Int)) ∧ w.cell? ⟨b, off + i * 4 + 3, none⟩ = some (.slice y.body.A y.body.l.length y.body.c) := by
  obtain ⟨b, off, e, h1, h2, h3⟩ := h.at_ hi
  exact ⟨b, off, e, h1, h2, h3 0 _ rfl, h3 1 _ rfl, h3 2 _ rfl, h3 3 _ rfl⟩
theorem Lz.u64 {F : Nat → Prop} {w : World} {x : Ls Nat} (h : Lz kU64 F w x) {i : Nat} {y : Nat} (hi : x.l[i]? = some y) : ∃ b off, x.A = some ⟨b, off, none⟩ ∧ b < w.heap.size ∧ i < x.l.length ∧ w.cell? ⟨b, off + i, none⟩ = some (.int .u64 (y : Int)) := by
  obtain ⟨b, off, e, h1, h2, h3⟩ := h.at_ hi
  exact ⟨b, off, e, h1, h2, by have := h3 0 _ rfl; rw [show off + i * kU64.k + 0 = off + i from by show off + i * 1 + 0 = _; omega] at this; exact this⟩
theorem Lz.int {F : Nat → Prop} {w : World} {x : Ls Int} (h : Lz kInt F w x) {i : Nat} {y : Int} (hi : x.l[i]? = some y) : ∃ b off, x.A = some ⟨b, off, none⟩ ∧ b < w.heap.size ∧ i < x.l.length ∧ w.cell? ⟨b, off + i, none⟩ = some (.int .i64 y) := by
  obtain ⟨b, off, e, h1, h2, h3⟩ := h.at_ hi
  exact ⟨b, off, e, h1, h2, by have := h3 0 _ rfl; rw [show off + i * kInt.k + 0 = off + i from by show off + i * 1 + 0 = _; omega] at this; exact this⟩
theorem Lz.u8 {F : Nat → Prop} {w : World} {x : Ls UInt8} (h : Lz kU8 F w x) {i : Nat} {y : UInt8} (hi : x.l[i]? = some y) : ∃ b off, x.A = some ⟨b, off, none⟩ ∧ b < w.heap.size ∧ i < x.l.length ∧ w.cell? ⟨b, off + i, none⟩ = some (.int .u8 (y.toNat : Int)) := by
  obtain ⟨b, off, e, h1, h2, h3⟩ := h.at_ hi
  exact ⟨b, off, e, h1, h2, by have := h3 0 _ rfl; rw [show off + i * kU8.k + 0 = off + i from by show off + i * 1 + 0 = _; omega] at this; exact this⟩
theorem Lz.rd8 {F : Nat → Prop} {w : World} {x : Ls UInt8} (h : Lz kU8 F w x) : Rd w.heap.size w x.A (u8s x.l) := cells_u8 x.l ▸ h.rd_
theorem Gr.of8 {B : Nat} {w : World} {A : Option Addr} {l : List UInt8} {c n : Nat} (h : w.ownsRow B 5 1 (.slice A n c) n (u8s l)) : n = l.length ∧ Gr kU8 B w ⟨l, A, c⟩ := by
  have hn : n = l.length := by have := h.1; rw [u8s_len] at this; omega
  subst hn
  refine ⟨rfl, ?_⟩
  unfold Gr
  rw [cells_u8]
  exact h
theorem Gr.to8 {B : Nat} {w : World} {x : Ls UInt8} (h : Gr kU8 B w x) : w.ownsRow B 5 1 x.v x.l.length (u8s x.l) := cells_u8 x.l ▸ h

/-! ### an operation -/
structure LOp where
  by_ : Int
  seq : Int
  kind : Int
  at_ : Int
  past : Ls Pk.Nm
  dev : Int
  old : Int
  mem : Int
  role : Int
  path : Ls LNd
  epoch : Pk.Nm
  n : Int
  body : Ls UInt8
  refs : Ls Nat
  of_ : Pk.Nm
  guards : Ls Int
  need : Int
  wait : Int
  boxes : Ls Bx
  pub : Nat
  hist : Ls LSd
  r : Nat
  s : Nat
def LOp.cells (o : LOp) : Array Value := #[.int .i64 o.by_, .int .i64 o.seq, .int .i64 o.kind, .int .i64 o.at_, o.past.v, .int .i64 o.dev, .int .i64 o.old, .int .i64 o.mem, .int .i64 o.role, o.path.v, .int .i64 o.epoch.a, .int .i64 o.epoch.b, .int .u64 (o.epoch.c : Int), .int .i64 o.n, o.body.v, o.refs.v, .int .i64 o.of_.a, .int .i64 o.of_.b, .int .u64 (o.of_.c : Int), o.guards.v, .int .i64 o.need, .int .i64 o.wait, o.boxes.v, .int .u64 (o.pub : Int), o.hist.v, .int .u64 (o.r : Int), .int .u64 (o.s : Int)]
def LOp.v (o : LOp) : Value := .agg o.cells
def LOp.er (o : LOp) : Er := ⟨o.by_, o.seq, o.kind, o.at_, o.past.l, o.dev, o.old, o.mem, o.role, o.path.l.map LNd.er, o.epoch, o.n, o.body.l, o.refs.l, o.of_, o.guards.l, o.need, o.wait, o.boxes.l, o.pub, o.hist.l.map LSd.er, o.r, o.s⟩
def LOp.zero : LOp := ⟨0, 0, 0, 0, Ls.nil, 0, 0, 0, 0, Ls.nil, ⟨0, 0, 0⟩, 0, Ls.nil, Ls.nil, ⟨0, 0, 0⟩, Ls.nil, 0, 0, Ls.nil, 0, Ls.nil, 0, 0⟩
/-- All its lists can be read, and lie in none of the blocks F. -/
structure Lies (F : Nat → Prop) (w : World) (o : LOp) : Prop where
  past : Lz kNm F w o.past
  path : Lz kNd F w o.path
  pathB : ∀ n ∈ o.path.l, Lz kBx F w n.boxes
  body : Lz kU8 F w o.body
  refs : Lz kU64 F w o.refs
  guards : Lz kInt F w o.guards
  boxes : Lz kBx F w o.boxes
  hist : Lz kSd F w o.hist
  histB : ∀ s ∈ o.hist.l, Lz kU8 F w s.body
theorem Lies.bf {F : Nat → Prop} {w w' : World} {o : LOp} (h : Lies F w o) (hb : Bf F w w') : Lies F w' o :=
  ⟨h.past.bf hb, h.path.bf hb, fun n hn => (h.pathB n hn).bf hb, h.body.bf hb, h.refs.bf hb, h.guards.bf hb, h.boxes.bf hb, h.hist.bf hb, fun s hs => (h.histB s hs).bf hb⟩
theorem Lies.weak {F G : Nat → Prop} {w : World} {o : LOp} (h : Lies F w o) (hFG : ∀ k, k < w.heap.size → G k → F k) : Lies G w o :=
  ⟨h.past.weak hFG, h.path.weak hFG, fun n hn => (h.pathB n hn).weak hFG, h.body.weak hFG, h.refs.weak hFG, h.guards.weak hFG, h.boxes.weak hFG, h.hist.weak hFG, fun s hs => (h.histB s hs).weak hFG⟩
theorem Lies.no {F : Nat → Prop} {w : World} {o : LOp} (h : Lies F w o) : Lies No w o := h.weak fun _ _ hg => hg.elim
theorem Lies.below {F : Nat → Prop} {w w' : World} {o : LOp} (h : Lies F w o) (hb : Below w.heap.size w w') : Lies F w' o := h.bf (Bf.below hb)
theorem Lies.alloc {F : Nat → Prop} {w : World} {o : LOp} (h : Lies F w o) (x : Obj) : Lies F (w.alloc x) o := h.bf (Bf.alloc w x)
theorem Lies.zero (F : Nat → Prop) (w : World) : Lies F w LOp.zero :=
  ⟨Lz.empty F w, Lz.empty F w, (fun _ hn => nomatch hn), Lz.empty F w, Lz.empty F w, Lz.empty F w, Lz.empty F w, Lz.empty F w, (fun _ hn => nomatch hn)⟩
/-- Nothing new can lie in a block that is not there yet. -/
theorem Lies.new {F : Nat → Prop} {w : World} {o : LOp} (h : Lies F w o) {G : Nat → Prop} (hG : ∀ k, k < w.heap.size → G k → F k) : Lies G w o := h.weak hG
theorem LOp.one (o : LOp) : o.cells.all (·.oneCell') = true := by
  unfold LOp.cells Ls.v
  simp [Value.oneCell']
theorem LOp.size (o : LOp) : o.cells.size = 27 := rfl
theorem LOp.c0 (o : LOp) : o.cells[0]? = some (.int .i64 o.by_) := rfl
theorem LOp.c1 (o : LOp) : o.cells[1]? = some (.int .i64 o.seq) := rfl
theorem LOp.c2 (o : LOp) : o.cells[2]? = some (.int .i64 o.kind) := rfl
theorem LOp.c3 (o : LOp) : o.cells[3]? = some (.int .i64 o.at_) := rfl
theorem LOp.c4 (o : LOp) : o.cells[4]? = some (.slice o.past.A o.past.l.length o.past.c) := rfl
theorem LOp.c5 (o : LOp) : o.cells[5]? = some (.int .i64 o.dev) := rfl
theorem LOp.c6 (o : LOp) : o.cells[6]? = some (.int .i64 o.old) := rfl
theorem LOp.c7 (o : LOp) : o.cells[7]? = some (.int .i64 o.mem) := rfl
theorem LOp.c8 (o : LOp) : o.cells[8]? = some (.int .i64 o.role) := rfl
theorem LOp.c9 (o : LOp) : o.cells[9]? = some (.slice o.path.A o.path.l.length o.path.c) := rfl
theorem LOp.c10 (o : LOp) : o.cells[10]? = some (.int .i64 o.epoch.a) := rfl
theorem LOp.c11 (o : LOp) : o.cells[11]? = some (.int .i64 o.epoch.b) := rfl
theorem LOp.c12 (o : LOp) : o.cells[12]? = some (.int .u64 (o.epoch.c : Int)) := rfl
theorem LOp.c13 (o : LOp) : o.cells[13]? = some (.int .i64 o.n) := rfl
theorem LOp.c14 (o : LOp) : o.cells[14]? = some (.slice o.body.A o.body.l.length o.body.c) := rfl
theorem LOp.c15 (o : LOp) : o.cells[15]? = some (.slice o.refs.A o.refs.l.length o.refs.c) := rfl
theorem LOp.c16 (o : LOp) : o.cells[16]? = some (.int .i64 o.of_.a) := rfl
theorem LOp.c17 (o : LOp) : o.cells[17]? = some (.int .i64 o.of_.b) := rfl
theorem LOp.c18 (o : LOp) : o.cells[18]? = some (.int .u64 (o.of_.c : Int)) := rfl
theorem LOp.c19 (o : LOp) : o.cells[19]? = some (.slice o.guards.A o.guards.l.length o.guards.c) := rfl
theorem LOp.c20 (o : LOp) : o.cells[20]? = some (.int .i64 o.need) := rfl
theorem LOp.c21 (o : LOp) : o.cells[21]? = some (.int .i64 o.wait) := rfl
theorem LOp.c22 (o : LOp) : o.cells[22]? = some (.slice o.boxes.A o.boxes.l.length o.boxes.c) := rfl
theorem LOp.c23 (o : LOp) : o.cells[23]? = some (.int .u64 (o.pub : Int)) := rfl
theorem LOp.c24 (o : LOp) : o.cells[24]? = some (.slice o.hist.A o.hist.l.length o.hist.c) := rfl
theorem LOp.c25 (o : LOp) : o.cells[25]? = some (.int .u64 (o.r : Int)) := rfl
theorem LOp.c26 (o : LOp) : o.cells[26]? = some (.int .u64 (o.s : Int)) := rfl
theorem at_cs {cs : Array Value} {o : LOp} (h : cs = o.cells) {i : Nat} {v : Value} (q : o.cells[i]? = some v) : cs[i]? = some v := h ▸ q
theorem op_info : (Tryz.prog.info? 35).map (·.size) = some 27 := by kernel_rfl
theorem op_under : Tryz.prog.underlying 35 = some (.struct (Tryz.prog.fieldsOf 35)) := by kernel_rfl
/-- An operation in a variable. -/
def Vr (w : World) (V : Nat) (o : LOp) : Prop := Blk w V 35 o.cells
theorem Vr.bf {F : Nat → Prop} {w w' : World} {V : Nat} {o : LOp} (h : Vr w V o) (hb : Bf F w w') (hf : ¬ F V) : Vr w' V o := hb.blk h hf
theorem Vr.below {w w' : World} {V n : Nat} {o : LOp} (h : Vr w V o) (hb : Below n w w') (hn : V < n) : Vr w' V o := Blk.below h hb hn
theorem Vr.new (w : World) (o : LOp) : Vr (w.alloc (.cells o.cells 35)) w.heap.size o := blk_new w _ _
/-- A load of the whole. -/
theorem wpList_load_op {ops : Array Oper} {rest : List Oper} {op : Oper} {a : Act} {w : World} {Q : Exit → Act → World → Prop} (hgd : op.guard = none) (x : Operand) (ho : op.op = .load 35 x)
    {V : Nat} {o : LOp} (hx : a.eval x = .pointer (some ⟨V, 0, none⟩)) (hV : Vr w V o) (h : wpList Tryz.prog ops Q rest (a.put op.dst o.v) w) : wpList Tryz.prog ops Q (op :: rest) a w :=
  wpList_load_row hgd 35 x ho V hx 35 o.cells (0, 0) _ hV op_under rfl (by rw [o.size]; exact op_info) h
/-- A store of the whole. -/
theorem wpList_store_op {ops : Array Oper} {rest : List Oper} {op : Oper} {a : Act} {w : World} {Q : Exit → Act → World → Prop} (hgd : op.guard = none) (x y : Operand) (ho : op.op = .store 35 x y)
    {V : Nat} {o o' : LOp} (hx : a.eval x = .pointer (some ⟨V, 0, none⟩)) (hy : a.eval y = o'.v) (hV : Vr w V o) (h : wpList Tryz.prog ops Q rest (a.put op.dst undef) (w.setRow V o'.cells)) : wpList Tryz.prog ops Q (op :: rest) a w :=
  wpList_store_row hgd 35 x y ho V o'.cells hx hy 35 o.cells hV (by rw [o'.size]; exact op_info) rfl o'.one h
theorem Vr.setRow {w : World} {V : Nat} {o : LOp} (h : Vr w V o) (o' : LOp) : Vr (w.setRow V o'.cells) V o' := by
  have hl : V < w.heap.size := Blk.lt h
  unfold Vr Blk at h ⊢
  show (Array.modify w.heap V _)[V]? = _
  rw [Array.getElem?_modify, if_pos rfl, h]
  rfl
end Ot
end Go.Proofs.YtkicjjcangkneaaGreatDoor
