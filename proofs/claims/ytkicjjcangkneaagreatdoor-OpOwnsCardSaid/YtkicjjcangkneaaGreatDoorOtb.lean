/-
  Lists of records in memory: such as can be read, such as grow; what may be written besides. No condition.
-/
import Derived.Test.YtkicjjcangkneaaGreatDoorOta
import Derived.Laws.AppendOwnNone
import Derived.Laws.OwnMore
import Derived.Deep.AppendLies
namespace Go.Proofs.YtkicjjcangkneaaGreatDoor
open Go.RowKit
namespace Ot

/-! ### what may be written -/
/-- All blocks that there were are as they were, but those of which F holds. -/
structure Bf (F : Nat → Prop) (w w' : World) : Prop where
  os : w'.os = w.os
  tape : w'.tape = w.tape
  output : w'.output = w.output
  size : w.heap.size ≤ w'.heap.size
  block : ∀ k, k < w.heap.size → ¬ F k → w'.heap[k]? = w.heap[k]?
theorem Bf.refl (F : Nat → Prop) (w : World) : Bf F w w := ⟨rfl, rfl, rfl, Nat.le_refl _, fun _ _ _ => rfl⟩
theorem Bf.trans {F : Nat → Prop} {a b c : World} (h : Bf F a b) (k : Bf F b c) : Bf F a c :=
  ⟨k.os.trans h.os, k.tape.trans h.tape, k.output.trans h.output, Nat.le_trans h.size k.size, fun i hi hf => (k.block i (Nat.lt_of_lt_of_le hi h.size) hf).trans (h.block i hi hf)⟩
theorem Bf.weak {F G : Nat → Prop} {a b : World} (h : Bf F a b) (hFG : ∀ k, k < a.heap.size → F k → G k) : Bf G a b := ⟨h.os, h.tape, h.output, h.size, fun i hi hg => h.block i hi fun hf => hg (hFG i hi hf)⟩
theorem Bf.below {F : Nat → Prop} {w w' : World} (h : Below w.heap.size w w') : Bf F w w' := ⟨h.os, h.tape, h.output, h.size, fun i hi _ => h.block i hi⟩
theorem Bf.belowN {F : Nat → Prop} {n : Nat} {w w' : World} (h : Below n w w') (hF : ∀ k, k < w.heap.size → n ≤ k → F k) : Bf F w w' := ⟨h.os, h.tape, h.output, h.size, fun i hi hf => h.block i (Nat.lt_of_not_le fun hn => hf (hF i hi hn))⟩
theorem Bf.grown {F : Nat → Prop} {w w' : World} {row : Option Nat} (h : w.grownBy w' row) (hF : ∀ g, row = some g → F g) : Bf F w w' := ⟨h.os, h.tape, h.output, h.size, fun i hi hf => h.block i hi fun e => hf (hF i e.symm)⟩
theorem Bf.set {F : Nat → Prop} (w : World) {V i : Nat} {u : Value} (hV : F V) : Bf F w (w.setCell ⟨V, i, none⟩ u) := Bf.grown (only_set (only_refl w (some V)) i u) fun g e => by injection e with e; exact e ▸ hV
theorem Bf.setRow {F : Nat → Prop} (w : World) {V : Nat} {cs : Array Value} (hV : F V) : Bf F w (w.setRow V cs) := by
  refine ⟨rfl, rfl, rfl, by simp [World.setRow], fun k hk hf => ?_⟩
  have hne : V ≠ k := fun e => hf (e ▸ hV)
  show (Array.modify w.heap V _)[k]? = _
  rw [Array.getElem?_modify, if_neg hne]
theorem Bf.alloc {F : Nat → Prop} (w : World) (o : Obj) : Bf F w (w.alloc o) := Bf.below ((Below.refl _ w).alloc (Nat.le_refl _) _)
theorem Bf.dn {F : Nat → Prop} {n : Nat} {w w' : World} (h : Bf F w w') (hn : n ≤ w.heap.size) (hF : ∀ k, F k → n ≤ k) : Below n w w' := ⟨h.os, h.tape, h.output, h.size, fun k hk => h.block k (by omega) fun hf => by have := hF k hf; omega⟩
theorem Bf.cell {F : Nat → Prop} {w w' : World} (h : Bf F w w') {p : Addr} (hp : p.block < w.heap.size) (hf : ¬ F p.block) : w'.cell? p = w.cell? p := World.cell?_of_block (h.block _ hp hf)
theorem Bf.blk {F : Nat → Prop} {w w' : World} (h : Bf F w w') {B t : Nat} {cs : Array Value} (hB : Blk w B t cs) (hf : ¬ F B) : Blk w' B t cs := (h.block B hB.lt hf).trans hB
/-- Nothing. -/
def No (_ : Nat) : Prop := False

/-! ### kinds of records -/
structure Kd (α : Type) where
  enc : α → List Value
  k : Nat
  ty : Nat
  len : ∀ x, (enc x).length = k
  one : ∀ x, ∀ u ∈ enc x, u.oneCell' = true
variable {α : Type} (K : Kd α)
def Kd.cells (l : List α) : List Value := l.flatMap K.enc
theorem Kd.cells_nil : K.cells [] = [] := rfl
theorem Kd.cells_cons (x : α) (l : List α) : K.cells (x :: l) = K.enc x ++ K.cells l := rfl
theorem Kd.cells_app (l l' : List α) : K.cells (l ++ l') = K.cells l ++ K.cells l' := by unfold Kd.cells; rw [List.flatMap_append]
theorem Kd.cells_one (x : α) : K.cells [x] = K.enc x := by rw [K.cells_cons, K.cells_nil, List.append_nil]
theorem Kd.cells_len (l : List α) : (K.cells l).length = l.length * K.k := by
  induction l with
  | nil => simp [Kd.cells]
  | cons x l ih => rw [K.cells_cons, List.length_append, ih, K.len, List.length_cons, Nat.succ_mul, Nat.add_comm]
theorem Kd.cells_mem (l : List α) : ∀ u ∈ K.cells l, u.oneCell' = true := by
  intro u hu
  obtain ⟨x, _, hx⟩ := List.mem_flatMap.1 hu
  exact K.one x u hx
theorem Kd.cells_at : ∀ (l : List α) (i : Nat) (x : α) (j : Nat) (u : Value), l[i]? = some x → (K.enc x)[j]? = some u → (K.cells l)[i * K.k + j]? = some u
  | [], i, x, j, u, h, _ => by simp at h
  | y :: l, 0, x, j, u, h, hu => by
    simp at h
    subst h
    rw [K.cells_cons, Nat.zero_mul, Nat.zero_add, List.getElem?_append_left (List.getElem?_eq_some_iff.1 hu).1]
    exact hu
  | y :: l, i + 1, x, j, u, h, hu => by
    have ih := Kd.cells_at l i x j u (by simpa using h) hu
    rw [K.cells_cons, List.getElem?_append_right (by rw [K.len, Nat.succ_mul]; omega), K.len, show (i + 1) * K.k + j - K.k = i * K.k + j by rw [Nat.succ_mul]; omega]
    exact ih
theorem Kd.cells_take (l : List α) (n : Nat) : K.cells (l.take n) = (K.cells l).take (n * K.k) := by
  induction l generalizing n with
  | nil => simp [Kd.cells]
  | cons x l ih =>
    cases n with
    | zero => simp [Kd.cells]
    | succ n =>
      rw [List.take_succ_cons, K.cells_cons, K.cells_cons, ih, Nat.succ_mul, Nat.add_comm, ← K.len x, List.take_length_add_append]
theorem Kd.cells_drop (l : List α) (n : Nat) : K.cells (l.drop n) = (K.cells l).drop (n * K.k) := by
  induction l generalizing n with
  | nil => simp [Kd.cells]
  | cons x l ih =>
    cases n with
    | zero => simp [Kd.cells]
    | succ n =>
      rw [List.drop_succ_cons, K.cells_cons, ih, Nat.succ_mul, Nat.add_comm, ← K.len x, List.drop_length_add_append]

/-! ### a list that lies somewhere -/
structure Ls (α : Type) where
  l : List α
  A : Option Addr
  c : Nat
def Ls.v {α : Type} (x : Ls α) : Value := .slice x.A x.l.length x.c
def Ls.nil {α : Type} : Ls α := ⟨[], none, 0⟩
theorem Ls.nil_v {α : Type} : (Ls.nil : Ls α).v = .slice none 0 0 := rfl
/-- It can be read, and lies in none of the blocks F. -/
structure Lz (F : Nat → Prop) (w : World) (x : Ls α) : Prop where
  rd : 0 < x.l.length → ∃ b off, x.A = some ⟨b, off, none⟩ ∧ b < w.heap.size ∧ ¬ F b ∧ ∀ i u, (K.cells x.l)[i]? = some u → w.cell? ⟨b, off + i, none⟩ = some u
  cap : x.l.length ≤ x.c
  nil : x.A = none → x.c = 0
variable {K}
theorem Lz.bf {F : Nat → Prop} {w w' : World} {x : Ls α} (h : Lz K F w x) (hb : Bf F w w') : Lz K F w' x :=
  ⟨fun hp => by
    obtain ⟨b, off, e, hlt, hf, hc⟩ := h.rd hp
    exact ⟨b, off, e, Nat.lt_of_lt_of_le hlt hb.size, hf, fun i u hu => (hb.cell (p := ⟨b, off + i, none⟩) hlt hf).trans (hc i u hu)⟩, h.cap, h.nil⟩
theorem Lz.weak {F G : Nat → Prop} {w : World} {x : Ls α} (h : Lz K F w x) (hFG : ∀ k, k < w.heap.size → G k → F k) : Lz K G w x :=
  ⟨fun hp => by
    obtain ⟨b, off, e, hlt, hf, hc⟩ := h.rd hp
    exact ⟨b, off, e, hlt, fun hg => hf (hFG b hlt hg), hc⟩, h.cap, h.nil⟩
theorem Lz.no {F : Nat → Prop} {w : World} {x : Ls α} (h : Lz K F w x) : Lz K No w x := h.weak fun _ _ hg => hg.elim
theorem Lz.step {F G : Nat → Prop} {w w' : World} {x : Ls α} (h : Lz K F w x) (hb : Bf F w w') (hG : ∀ k, k < w.heap.size → G k → F k) : Lz K G w' x :=
  ⟨fun hp => by
    obtain ⟨b, off, e, hlt, hf, hc⟩ := h.rd hp
    exact ⟨b, off, e, Nat.lt_of_lt_of_le hlt hb.size, fun hg => hf (hG b hlt hg), fun i u hu => (hb.cell (p := ⟨b, off + i, none⟩) hlt hf).trans (hc i u hu)⟩, h.cap, h.nil⟩
theorem Lz.empty (F : Nat → Prop) (w : World) : Lz K F w Ls.nil := ⟨fun h => absurd h (by simp [Ls.nil]), Nat.le_refl _, fun _ => rfl⟩
theorem Lz.at_ {F : Nat → Prop} {w : World} {x : Ls α} (h : Lz K F w x) {i : Nat} {y : α} (hi : x.l[i]? = some y) : ∃ b off, x.A = some ⟨b, off, none⟩ ∧ b < w.heap.size ∧ i < x.l.length ∧ ∀ j u, (K.enc y)[j]? = some u → w.cell? ⟨b, off + i * K.k + j, none⟩ = some u := by
  have hl : i < x.l.length := (List.getElem?_eq_some_iff.1 hi).1
  obtain ⟨b, off, e, hlt, _, hc⟩ := h.rd (by omega)
  exact ⟨b, off, e, hlt, hl, fun j u hu => by rw [Nat.add_assoc]; exact hc _ u (K.cells_at x.l i y j u hi hu)⟩
theorem Lz.rd_ {F : Nat → Prop} {w : World} {x : Ls α} (h : Lz K F w x) : Rd w.heap.size w x.A (K.cells x.l) := fun hp => by
  rw [K.cells_len] at hp
  obtain ⟨b, off, e, hlt, _, hc⟩ := h.rd (Nat.pos_of_mul_pos_right hp)
  exact ⟨b, off, e, hlt, hc⟩
theorem Lz.none_ {F : Nat → Prop} {w : World} {x : Ls α} (h : Lz K F w x) (hA : x.A = none) : x.l.length = 0 ∧ x.c = 0 := ⟨by have := h.cap; have := h.nil hA; omega, h.nil hA⟩
theorem Lz.take {F : Nat → Prop} {w : World} {x : Ls α} (h : Lz K F w x) (n : Nat) : Lz K F w ⟨x.l.take n, x.A, x.c⟩ := by
  refine ⟨fun hp => ?_, ?_, h.nil⟩
  · have hp2 : 0 < x.l.length := by have hp : 0 < (x.l.take n).length := hp; rw [List.length_take] at hp; omega
    obtain ⟨b, off, e, hlt, hf, hc⟩ := h.rd hp2
    refine ⟨b, off, e, hlt, hf, fun i u hu => hc i u ?_⟩
    have hu : (K.cells (x.l.take n))[i]? = some u := hu
    rw [K.cells_take, List.getElem?_take] at hu
    split at hu
    · exact hu
    · cases hu
  · show (x.l.take n).length ≤ x.c
    rw [List.length_take]
    have := h.cap
    omega

/-! ### a list of one's own, that grows -/
variable (K)
def Gr (B : Nat) (w : World) (x : Ls α) : Prop := w.ownsRow B K.ty K.k x.v x.l.length (K.cells x.l)
variable {K}
theorem Gr.nil (B : Nat) (w : World) : Gr K B w Ls.nil := World.ownsRow_nil w B K.ty K.k
theorem Gr.base {B B' : Nat} {w : World} {x : Ls α} (h : Gr K B w x) (hB : B' ≤ B) : Gr K B' w x := by
  refine ⟨h.1, ?_⟩
  rcases h.2 with h0 | ⟨g, cap, cur, e, hg, h1⟩
  · exact .inl h0
  · exact .inr ⟨g, cap, cur, e, Nat.le_trans hB hg, h1⟩
theorem Gr.lt {B : Nat} {w : World} {x : Ls α} (h : Gr K B w x) : ∀ k, x.v.ownBlock = some k → B ≤ k ∧ k < w.heap.size := World.ownsRow.lt h
theorem Gr.grown {B : Nat} {w w' : World} {x : Ls α} {row : Option Nat} (h : Gr K B w x) (hg : w.grownBy w' row) (hr : ∀ g, row = some g → g < B) : Gr K B w' x :=
  World.ownsRow.kept h hg (by
    cases e : x.v.ownBlock with
    | none => exact .inl rfl
    | some g => exact .inr fun e2 => by have := (h.lt g e).1; have := hr g e2.symm; omega)
theorem Gr.bf {B : Nat} {F : Nat → Prop} {w w' : World} {x : Ls α} (h : Gr K B w x) (hb : Bf F w w') (hF : ∀ k, F k → k < B) : Gr K B w' x := by
  refine ⟨h.1, ?_⟩
  rcases h.2 with h0 | ⟨g, cap, cur, e, hg, hcell, h1⟩
  · exact .inl h0
  · refine .inr ⟨g, cap, cur, e, hg, (hb.block g ?_ fun hf => by have := hF g hf; omega).trans hcell, h1⟩
    exact (Array.getElem?_eq_some_iff.1 hcell).1
theorem Gr.below {B : Nat} {w w' : World} {x : Ls α} (h : Gr K B w x) (hb : Below w.heap.size w w') : Gr K B w' x := h.bf (F := No) (Bf.below hb) fun _ hf => hf.elim
theorem Gr.lz {B : Nat} {F : Nat → Prop} {w : World} {x : Ls α} (h : Gr K B w x) (hF : ∀ k, F k → k < B) : Lz K F w x := by
  refine ⟨fun hp => ?_, ?_, fun e => ?_⟩
  · rcases h.2 with ⟨_, h0⟩ | ⟨g, cap, cur, e, hg, hcell, h1⟩
    · omega
    · unfold Ls.v at e
      injection e with e
      have hlt : g < w.heap.size := (Array.getElem?_eq_some_iff.1 hcell).1
      refine ⟨g, 0, e, hlt, fun hf => by have := hF g hf; omega, fun i u hu => ?_⟩
      have hv : x.v.ownBlock = some g := by unfold Ls.v; rw [e]; rfl
      have := World.ownsRow.cells h hv i u hu
      rw [Addr.add_lit] at this
      exact this
  · rcases h.2 with ⟨_, h0⟩ | ⟨g, cap, cur, e, _, _, h1, _⟩
    · omega
    · unfold Ls.v at e
      injection e with _ _ e
      omega
  · rcases h.2 with ⟨e2, h0⟩ | ⟨g, cap, cur, e2, _⟩
    · unfold Ls.v at e2
      injection e2
    · unfold Ls.v at e2
      rw [e] at e2
      injection e2 with e2
      cases e2
theorem Gr.cells {B : Nat} {w : World} {x : Ls α} (h : Gr K B w x) {g : Nat} (hg : x.v.ownBlock = some g) : ∀ j u, (K.cells x.l)[j]? = some u → w.cell? ⟨g, j, none⟩ = some u := fun j u hu => by
  have := World.ownsRow.cells h hg j u hu
  rw [Addr.add_lit, Nat.zero_add] at this
  exact this

/-- What the program says of a kind. -/
structure KI (P : Program) (K : Kd α) (T : Nat) where
  i : TypeInfo
  z : Value
  bytes : Nat
  under : P.underlying T = some (.slice K.ty)
  info : P.info? K.ty = some i
  zero : i.zero = some z
  size : i.size = K.k
  byt : i.bytes = bytes
  zs : z.cells.size = K.k
  pos : 0 < K.k
  few : bytes ≤ 100
theorem KI.of {P : Program} {K : Kd α} {T : Nat} {z : Value} {bytes : Nat} (under : P.underlying T = some (.slice K.ty)) (h : (P.info? K.ty).map (fun i => (i.zero, i.size, i.bytes)) = some (some z, K.k, bytes)) (zs : z.cells.size = K.k) (pos : 0 < K.k) (few : bytes ≤ 100) : Nonempty (KI P K T) := by
  obtain ⟨i0, hi, h0, h1, h2⟩ := info_parts h
  exact ⟨⟨i0, z, bytes, under, hi, h0, h1, h2, zs, pos, few⟩⟩

/-- A list that grows by what a slice holds. -/
theorem wpList_push {P : Program} {T : Nat} (hK : Nonempty (KI P K T)) {ops : Array Oper} {rest : List Oper} {o : Oper} {a : Act} {Q : Exit → Act → World → Prop} {w : World} (hgd : o.guard = none) (s xo : Operand)
    (ho : o.op = .call { callee := .builtin .append, args := #[s, xo], argTypes := #[T, T] }) (B : Nat) (x : Ls α) (hg : Gr K B w x) (hs : a.eval s = x.v)
    (ad : Addr) (m c : Nat) (l : List α) (hx : a.eval xo = .slice (some ad) m c) (hm : m = l.length) (hsrc : ∀ j u, (K.cells l)[j]? = some u → w.cell? (ad.add j) = some u)
    (hb : x.l.length + l.length ≤ 1000000000) (hB : B ≤ w.heap.size)
    (h : ∀ z w1, z.l = x.l ++ l → Gr K B w1 z → Below B w w1 → w.grownBy w1 x.v.ownBlock → wpList P ops Q rest (a.put o.dst z.v) w1) : wpList P ops Q (o :: rest) a w := by
  obtain ⟨KI⟩ := hK
  subst hm
  refine wpList_append_own w hgd s xo T ho B K.ty KI.i KI.z K.k KI.bytes KI.under KI.info KI.zero KI.size KI.byt KI.zs KI.pos x.v x.l.length (K.cells x.l) hs hg ad l.length c (K.cells l) hx (K.cells_len l) hsrc (K.cells_mem l) (by unfold maxLen; omega) ?_ hB ?_
  · have := KI.few
    have : (x.l.length + l.length) * KI.bytes ≤ 1000000000 * 100 := Nat.mul_le_mul hb KI.few
    omega
  · intro v' w1 hown hgrow _
    rw [← K.cells_app, ← List.length_append] at hown
    have hbel : Below B w w1 := (Below.refl B w).grown hgrow hB (fun j e => (hg.lt j e).1)
    have hv : ∃ A c, v' = .slice A (x.l ++ l).length c := by
      rcases hown.2 with ⟨e, h0⟩ | ⟨g, cap, cur, e, _⟩
      · exact ⟨none, 0, by rw [e, h0]⟩
      · exact ⟨_, cap, e⟩
    obtain ⟨A, c', rfl⟩ := hv
    exact h ⟨x.l ++ l, A, c'⟩ w1 rfl hown hbel hgrow
/-- The same; where it lies then. -/
theorem wpList_push1 {P : Program} {T : Nat} (hK : Nonempty (KI P K T)) {ops : Array Oper} {rest : List Oper} {o : Oper} {a : Act} {Q : Exit → Act → World → Prop} {w : World} (hgd : o.guard = none) (s xo : Operand)
    (ho : o.op = .call { callee := .builtin .append, args := #[s, xo], argTypes := #[T, T] }) (B : Nat) (x : Ls α) (hg : Gr K B w x) (hs : a.eval s = x.v)
    (ad : Addr) (m c : Nat) (l : List α) (hx : a.eval xo = .slice (some ad) m c) (hm : m = l.length) (hp : 0 < m) (hsrc : ∀ j u, (K.cells l)[j]? = some u → w.cell? (ad.add j) = some u)
    (hb : x.l.length + l.length ≤ 1000000000) (hB : B ≤ w.heap.size)
    (h : ∀ z w1, z.l = x.l ++ l → Gr K B w1 z → w.grownBy w1 x.v.ownBlock → (∀ k, z.v.ownBlock = some k → x.v.ownBlock = some k ∨ w.heap.size ≤ k) → wpList P ops Q rest (a.put o.dst z.v) w1) : wpList P ops Q (o :: rest) a w := by
  obtain ⟨KI⟩ := hK
  subst hm
  refine wpList_append_lies w hgd s xo T ho B K.ty KI.i KI.z K.k KI.bytes KI.under KI.info KI.zero KI.size KI.byt KI.zs KI.pos x.v x.l.length (K.cells x.l) hs hg ad l.length c (K.cells l) hx (K.cells_len l) hsrc (K.cells_mem l) hp (by unfold maxLen; omega) ?_ hB _ rfl ?_
  · have := KI.few
    have : (x.l.length + l.length) * KI.bytes ≤ 1000000000 * 100 := Nat.mul_le_mul hb KI.few
    omega
  · intro g cap w1 hown hgrow hlies _
    rw [← K.cells_app, ← List.length_append] at hown
    have := h ⟨x.l ++ l, some ⟨g, 0, none⟩, cap⟩ w1 rfl hown hgrow (fun k e => by
      have e : some g = some k := e
      injection e with e
      subst e
      rcases hlies with h1 | h1
      · exact .inl h1
      · exact .inr (by omega))
    unfold Ls.v at this
    rw [List.length_append] at this
    exact this
theorem cell_new (w : World) (cs : Array Value) (t : TypeId) : ∀ j u, cs.toList[j]? = some u → (w.alloc (.cells cs t)).cell? ((⟨w.heap.size, 0, none⟩ : Addr).add j) = some u := by
  intro j u hu
  exact World.news_of_block (heap_alloc_new w (.cells cs t)) j u (by simpa using hu)
/-- It grows by nothing. -/
theorem wpList_push_nil {P : Program} {T : Nat} (hK : Nonempty (KI P K T)) {ops : Array Oper} {rest : List Oper} {o : Oper} {a : Act} {Q : Exit → Act → World → Prop} {w : World} (hgd : o.guard = none) (s xo : Operand)
    (ho : o.op = .call { callee := .builtin .append, args := #[s, xo], argTypes := #[T, T] }) (B : Nat) (x : Ls α) (hg : Gr K B w x) (hs : a.eval s = x.v)
    (hx : a.eval xo = .slice none 0 0) (h : wpList P ops Q rest (a.put o.dst x.v) w) : wpList P ops Q (o :: rest) a w := by
  obtain ⟨KI⟩ := hK
  exact wpList_append_own_none hgd s xo T ho B K.ty KI.i K.k KI.under KI.info x.v x.l.length (K.cells x.l) hs hg hx h
/-- It grows by a list that can be read. -/
theorem wpList_push_ls {P : Program} {T : Nat} (hK : Nonempty (KI P K T)) {ops : Array Oper} {rest : List Oper} {o : Oper} {a : Act} {Q : Exit → Act → World → Prop} {w : World} (hgd : o.guard = none) (s xo : Operand)
    (ho : o.op = .call { callee := .builtin .append, args := #[s, xo], argTypes := #[T, T] }) (B : Nat) (x y : Ls α) (hg : Gr K B w x) (hs : a.eval s = x.v)
    {F : Nat → Prop} (hy : Lz K F w y) (hx : a.eval xo = y.v)
    (hb : x.l.length + y.l.length ≤ 1000000000) (hB : B ≤ w.heap.size)
    (h : ∀ z w1, z.l = x.l ++ y.l → Gr K B w1 z → Below B w w1 → w.grownBy w1 x.v.ownBlock → wpList P ops Q rest (a.put o.dst z.v) w1) : wpList P ops Q (o :: rest) a w := by
  obtain ⟨l, A, c⟩ := y
  rcases A with _ | ad
  · obtain ⟨h0, h1⟩ := hy.none_ rfl
    have hl : l = [] := List.eq_nil_of_length_eq_zero h0
    subst hl
    have h1 : c = 0 := h1
    subst h1
    exact wpList_push_nil hK hgd s xo ho B x hg hs hx (h x w (by rw [List.append_nil]) hg (Below.refl _ _) (World.grownBy.refl w _))
  · refine wpList_push hK hgd s xo ho B x hg hs ad l.length c l hx rfl (fun j u hu => ?_) hb hB h
    have hp : 0 < l.length := by
      have := (List.getElem?_eq_some_iff.1 hu).1
      rw [K.cells_len] at this
      rcases Nat.eq_zero_or_pos l.length with h0 | h0
      · rw [h0, Nat.zero_mul] at this; omega
      · exact h0
    obtain ⟨b, off, e, _, _, hc⟩ := hy.rd hp
    injection e with e
    subst e
    rw [Addr.add_lit]
    exact hc j u hu
end Ot
end Go.Proofs.YtkicjjcangkneaaGreatDoor
