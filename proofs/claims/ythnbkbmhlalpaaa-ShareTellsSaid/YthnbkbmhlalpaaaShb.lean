/-
  Shares in memory: a list that can be read, one that grows, records compared; what was there is left as it was.
-/
import Derived.Test.YthnbkbmhlalpaaaSha
import Derived.Laws.StructEq
import Derived.Deep.AppendLies
import Derived.Deep.RegionHeld3
namespace Go.Proofs.Ythnbkbmhlalpaaa
open Go.RowKit

/-! ### cells -/
def sha (s : Shr) : Value := .agg #[.int .u64 (s.a : Int), .int .u64 (s.v : Int)]
def shs (l : List Shr) : List Value := l.flatMap fun s => [.int .u64 (s.a : Int), .int .u64 (s.v : Int)]
theorem shs_nil : shs [] = [] := rfl
theorem shs_cons (s : Shr) (l : List Shr) : shs (s :: l) = .int .u64 (s.a : Int) :: .int .u64 (s.v : Int) :: shs l := rfl
theorem shs_len (l : List Shr) : (shs l).length = l.length * 2 := by
  induction l with
  | nil => rfl
  | cons s l ih => rw [shs_cons, List.length_cons, List.length_cons, ih, List.length_cons]; omega
theorem shs_app (l l' : List Shr) : shs (l ++ l') = shs l ++ shs l' := by unfold shs; rw [List.flatMap_append]
theorem shs_snoc (l : List Shr) (a v : Nat) : shs (l ++ [⟨a, v⟩]) = shs l ++ [.int .u64 (a : Int), .int .u64 (v : Int)] := shs_app l [⟨a, v⟩]
theorem shs_at : ∀ (l : List Shr) (i : Nat) (s : Shr), l[i]? = some s → (shs l)[i * 2]? = some (.int .u64 (s.a : Int)) ∧ (shs l)[i * 2 + 1]? = some (.int .u64 (s.v : Int))
  | [], i, s, h => by simp at h
  | x :: l, 0, s, h => by
    simp at h
    subst h
    exact ⟨rfl, rfl⟩
  | x :: l, i + 1, s, h => by
    have ih := shs_at l i s (by simpa using h)
    rw [shs_cons]
    have e : (i + 1) * 2 = i * 2 + 1 + 1 := by omega
    rw [e]
    exact ⟨by simpa using ih.1, by simpa using ih.2⟩
theorem shs_one (l : List Shr) : ∀ u ∈ shs l, u.oneCell' = true := by
  intro u hu
  obtain ⟨s, _, hs⟩ := List.mem_flatMap.1 hu
  rcases List.mem_cons.1 hs with rfl | hs
  · rfl
  · rw [List.mem_singleton.1 hs]; rfl
theorem shs_take (l : List Shr) (k : Nat) : shs (l.take k) = (shs l).take (k * 2) := by
  induction l generalizing k with
  | nil => simp [shs]
  | cons s l ih =>
    cases k with
    | zero => rfl
    | succ k =>
      rw [List.take_succ_cons, shs_cons, shs_cons, ih, show (k + 1) * 2 = k * 2 + 1 + 1 by omega]
      rfl

/-- Numbers of 64 bits. -/
def Sm64 (l : List Shr) : Prop := ∀ s ∈ l, s.a < 18446744073709551616 ∧ s.v < 18446744073709551616
/-- Shares lie at A, below block B. -/
def Sd (B : Nat) (w : World) (A : Option Addr) (l : List Shr) : Prop :=
  0 < l.length → ∃ b off, A = some ⟨b, off, none⟩ ∧ b < B ∧ ∀ i s, l[i]? = some s → w.cell? ⟨b, off + i * 2, none⟩ = some (.int .u64 (s.a : Int)) ∧ w.cell? ⟨b, off + i * 2 + 1, none⟩ = some (.int .u64 (s.v : Int))
theorem Sd.below {B : Nat} {w w' : World} {A : Option Addr} {l : List Shr} (h : Sd B w A l) (hb : Below B w w') : Sd B w' A l := fun hp => by
  obtain ⟨b, off, e, hlt, hc⟩ := h hp
  exact ⟨b, off, e, hlt, fun i s hs => ⟨(hb.cell (p := ⟨b, off + i * 2, none⟩) hlt).trans (hc i s hs).1, (hb.cell (p := ⟨b, off + i * 2 + 1, none⟩) hlt).trans (hc i s hs).2⟩⟩
theorem Sd.more {B B' : Nat} {w : World} {A : Option Addr} {l : List Shr} (h : Sd B w A l) (hB : B ≤ B') : Sd B' w A l := fun hp => by
  obtain ⟨b, off, e, hlt, hc⟩ := h hp
  exact ⟨b, off, e, by omega, hc⟩
theorem Sd.nil (B : Nat) (w : World) (A : Option Addr) : Sd B w A [] := fun h => absurd h (by simp)

/-- A slice of shares that can be read. -/
structure St (w : World) (A : Option Addr) (n c : Nat) (l : List Shr) : Prop where
  len : n = l.length
  rd : Sd w.heap.size w A l
  cap : n ≤ c
  nil : A = none → c = 0
  small : Sm64 l
theorem St.below {w w' : World} {A : Option Addr} {n c : Nat} {l : List Shr} (h : St w A n c l) (hb : Below w.heap.size w w') : St w' A n c l :=
  ⟨h.len, (h.rd.below hb).more hb.size, h.cap, h.nil, h.small⟩
theorem St.new {w : World} {A : Option Addr} {n c : Nat} {l : List Shr} (h : St w A n c l) (o : Obj) : St (w.alloc o) A n c l := h.below ((Below.refl _ w).alloc (Nat.le_refl _) _)
theorem St.empty (w : World) : St w none 0 0 [] := ⟨rfl, Sd.nil _ _ _, Nat.le_refl _, fun _ => rfl, by intro s hs; cases hs⟩
theorem St.spot {w : World} {A : Option Addr} {n c : Nat} {l : List Shr} (h : St w A n c l) {k : Nat} {s : Shr} (hk : l[k]? = some s) : ∃ b off, A = some ⟨b, off, none⟩ ∧ b < w.heap.size ∧ k < n ∧ w.cell? ⟨b, off + k * 2, none⟩ = some (.int .u64 (s.a : Int)) ∧ w.cell? ⟨b, off + k * 2 + 1, none⟩ = some (.int .u64 (s.v : Int)) := by
  have hl : k < l.length := (List.getElem?_eq_some_iff.1 hk).1
  obtain ⟨b, off, e, hlt, hc⟩ := h.rd (by omega)
  exact ⟨b, off, e, hlt, by rw [h.len]; exact hl, hc k s hk⟩
theorem Sd.take {B : Nat} {w : World} {A : Option Addr} {l : List Shr} (h : Sd B w A l) (k : Nat) : Sd B w A (l.take k) := by
  intro hp
  obtain ⟨b, off, e, hlt, hc⟩ := h (by rw [List.length_take] at hp; omega)
  refine ⟨b, off, e, hlt, fun i s hs => hc i s ?_⟩
  rw [List.getElem?_take] at hs
  split at hs
  · exact hs
  · cases hs
theorem St.take {w : World} {A : Option Addr} {n c : Nat} {l : List Shr} (h : St w A n c l) {k : Nat} (hk : k ≤ n) : St w A k c (l.take k) :=
  ⟨by rw [List.length_take]; have := h.len; omega, h.rd.take k, by have := h.cap; omega, h.nil, fun s hs => h.small s (List.mem_of_mem_take hs)⟩
/-- A value that is a slice of up to d shares. -/
def Hs (w : World) (o : Value) (l : List Shr) (d : Nat) : Prop := ∃ A n c, o = .slice A n c ∧ St w A n c l ∧ n ≤ d
theorem Hs.below {w w' : World} {o : Value} {l : List Shr} {d : Nat} (h : Hs w o l d) (hb : Below w.heap.size w w') : Hs w' o l d := by
  obtain ⟨A, n, c, e, h1, h2⟩ := h
  exact ⟨A, n, c, e, h1.below hb, h2⟩
theorem Hs.new {w : World} {o : Value} {l : List Shr} {d : Nat} (h : Hs w o l d) (x : Obj) : Hs (w.alloc x) o l d := h.below ((Below.refl _ w).alloc (Nat.le_refl _) _)
theorem Hs.nil (w : World) (d : Nat) : Hs w (.slice none 0 0) [] d := ⟨none, 0, 0, rfl, St.empty w, Nat.zero_le _⟩

/-! ### a list that grows -/
theorem info_share : (Try.prog.info? 33).map (fun i => (i.zero, i.size, i.bytes)) = some (some (.agg #[.int .u64 0, .int .u64 0]), 2, 16) := by kernel_rfl
/-- A list of its own, from block B on. -/
def So (B : Nat) (w : World) (o : Value) (l : List Shr) : Prop := (∃ A c, o = .slice A l.length c) ∧ w.ownsRow B 33 2 o l.length (shs l)
theorem So.nil (B : Nat) (w : World) : So B w (.slice none 0 0) [] := ⟨⟨none, 0, rfl⟩, World.ownsRow_nil w B 33 2⟩
theorem So.kept {B : Nat} {w w' : World} {o : Value} {l : List Shr} {row : Option Nat} (h : So B w o l) (hg : w.grownBy w' row) (hne : o.ownBlock = none ∨ o.ownBlock ≠ row) : So B w' o l := ⟨h.1, h.2.kept hg hne⟩
theorem So.below {B : Nat} {w w' : World} {o : Value} {l : List Shr} (h : So B w o l) (hb : Below w.heap.size w w') : So B w' o l :=
  h.kept (below_grown hb none) (by cases h2 : o.ownBlock with | none => exact .inl rfl | some k => exact .inr (by simp))
theorem So.alloc {B : Nat} {w : World} {o : Value} {l : List Shr} (h : So B w o l) (x : Obj) : So B (w.alloc x) o l := h.below ((Below.refl _ w).alloc (Nat.le_refl _) _)
theorem So.base {B B' : Nat} {w : World} {o : Value} {l : List Shr} (h : So B w o l) (hB : B' ≤ B) : So B' w o l := by
  refine ⟨h.1, h.2.1, ?_⟩
  rcases h.2.2 with h2 | ⟨g, cap, cur, h3, h4, h5⟩
  · exact .inl h2
  · exact .inr ⟨g, cap, cur, h3, Nat.le_trans hB h4, h5⟩
theorem So.st {B : Nat} {w : World} {o : Value} {l : List Shr} (h : So B w o l) (hs : Sm64 l) : ∃ A c, o = .slice A l.length c ∧ St w A l.length c l := by
  obtain ⟨⟨A, c, e⟩, hrow⟩ := h
  subst e
  refine ⟨A, c, rfl, rfl, fun hp => ?_, ?_, fun e => ?_, hs⟩
  · rcases hrow.2 with ⟨h2, h3⟩ | ⟨g, cap, cur, h2, h3, h4, _⟩
    · omega
    · injection h2 with e1 e2 e3
      subst e1
      have hlt : g < w.heap.size := (Array.getElem?_eq_some_iff.1 h4).1
      refine ⟨g, 0, rfl, hlt, fun i s hi => ?_⟩
      have hcl := hrow.cells (g := g) rfl
      have h5 := shs_at l i s hi
      have c1 := hcl (i * 2) _ h5.1
      have c2 := hcl (i * 2 + 1) _ h5.2
      rw [Addr.add_lit] at c1 c2
      rw [Nat.zero_add] at c1 c2 ⊢
      exact ⟨c1, c2⟩
  · rcases hrow.2 with ⟨h2, h3⟩ | ⟨g, cap, cur, h2, _, _, h3, _⟩
    · omega
    · injection h2 with _ _ h2; omega
  · subst e
    rcases hrow.2 with ⟨h2, h3⟩ | ⟨g, cap, cur, h2, _⟩
    · injection h2
    · injection h2 with h2; cases h2
theorem So.hs {B d : Nat} {w : World} {o : Value} {l : List Shr} (h : So B w o l) (hs : Sm64 l) (hd : l.length ≤ d) : Hs w o l d := by
  obtain ⟨A, c, e, h1⟩ := h.st hs
  exact ⟨A, l.length, c, e, h1, hd⟩
theorem Sm64.snoc {l : List Shr} (h : Sm64 l) {a v : Nat} (ha : a < 18446744073709551616) (hv : v < 18446744073709551616) : Sm64 (l ++ [⟨a, v⟩]) := fun s hs => by
  rcases List.mem_append.1 hs with h1 | h1
  · exact h s h1
  · rw [List.mem_singleton.1 h1]; exact ⟨ha, hv⟩
theorem cell_two_new (w : World) (x y : Value) (t : TypeId) : ∀ j u, [x, y][j]? = some u → (w.alloc (.cells #[x, y] t)).cell? ((⟨w.heap.size, 0, none⟩ : Addr).add j) = some u := by
  intro j u hu
  exact World.news_of_block (heap_alloc_new w (.cells #[x, y] t)) j u hu

theorem wpList_pushS {ops : Array Oper} {rest : List Oper} {o : Oper} {a : Act} {Q : Exit → Act → World → Prop} {w : World} (hgd : o.guard = none) (s x : Operand)
    (ho : o.op = .call { callee := .builtin .append, args := #[s, x], argTypes := #[27, 27] }) (B p v : Nat) (L : List Shr) (u : Value) (hg : So B w u L) (hs : a.eval s = u) (hx : a.eval x = .slice (some ⟨w.heap.size, 0, none⟩) 1 1) (hk : L.length ≤ 1000000000) (hB : B ≤ w.heap.size)
    (h : ∀ z w1, So B w1 z (L ++ [⟨p, v⟩]) → Below B w w1 → wpList Try.prog ops Q rest (a.put o.dst z) w1) : wpList Try.prog ops Q (o :: rest) a (w.alloc (.cells #[.int .u64 (p : Int), .int .u64 (v : Int)] 33)) := by
  obtain ⟨i0, hi, hz0, hz1, hz2⟩ := info_parts info_share
  obtain ⟨⟨A, c, rfl⟩, hrow⟩ := hg
  refine wpList_append_own _ hgd s x 27 ho B 33 i0 (.agg #[.int .u64 0, .int .u64 0]) 2 16 Try.underlying27 hi hz0 hz1 hz2 rfl (by decide) _ _ _ hs (hrow.alloc _) ⟨w.heap.size, 0, none⟩ 1 1 [.int .u64 (p : Int), .int .u64 (v : Int)] hx rfl (cell_two_new _ _ _ _) (by simp [Value.oneCell']) (by unfold maxLen; omega) (by omega) (by simp; omega) ?_
  intro v' w1 hown hgrow _
  obtain ⟨g, cap, rfl⟩ := ownsRow_succ hown
  refine h _ w1 ⟨⟨_, cap, by rw [List.length_append]; rfl⟩, ?_⟩ ?_
  · rw [shs_snoc, List.length_append]
    exact hown
  · have hg2 : (w.alloc (.cells #[.int .u64 (p : Int), .int .u64 (v : Int)] 33)).grownBy w1 (Value.slice A L.length c).ownBlock := hgrow
    exact ((Below.refl B w).alloc hB _).grown hg2 (by simp; omega) (fun j e => (hrow.lt j e).1)

/-! ### shares compared -/
def alike (a b a' b' : Nat) : Bool := decide (a = a' ∧ b = b')
theorem share_under : Try.prog.underlying 33 = some (.struct (Try.prog.fieldsOf 33)) := by kernel_rfl
theorem share_held : Try.prog.stoodInHeld 33 = false := by kernel_rfl
theorem share_guard : Try.prog.eqGuardType Try.prog.depth 33 = false := by kernel_rfl
theorem share_same (a b a' b' : Nat) (w : World) (n : Nat) :
    (Op.equalIn (n + 2) 33 (.agg #[.int .u64 (a : Int), .int .u64 (b : Int)]) (.agg #[.int .u64 (a' : Int), .int .u64 (b' : Int)])).run Try.prog w = .ok (alike a b a' b') w := by
  rw [run_equalIn_struct w (n + 1) 33 _ _ share_under share_held]
  have hf : (Try.prog.fieldsOf 33).toList = [{ name := "At", type := 22, offset := 0, embedded := false, tag := "", pkgPath := "", byteOffset := 0 },
          { name := "V", type := 22, offset := 1, embedded := false, tag := "", pkgPath := "", byteOffset := 8 }] := by
    simp [Program.fieldsOf, Try.underlying33]
  rw [hf]
  have hi := fun (w : World) (x y : Nat) => run_equalIn_int (P := Try.prog) w n 22 .u64 .u64 (x : Int) (y : Int) Try.underlying22
  have e : ∀ x y : Nat, ((x : Int) == (y : Int)) = decide (x = y) := fun x y => by
    by_cases h : x = y
    · rw [decide_eq_true h, beq_iff_eq]; omega
    · rw [decide_eq_false h, beq_eq_false_iff_ne]; omega
  have hp := fun (w : World) (xs : Array Value) (i : Nat) (v : Value) (h : xs[i]? = some v) => (show (part 22 xs i).run Try.prog w = .ok v w by simp [part, isAgg, go_sem, run_underlying Try.underlying22, h])
  have h0 := fun (w : World) (x0 x1 : Nat) => hp w #[.int .u64 (x0 : Int), .int .u64 (x1 : Int)] 0 _ rfl
  have h1 := fun (w : World) (x0 x1 : Nat) => hp w #[.int .u64 (x0 : Int), .int .u64 (x1 : Int)] 1 _ rfl
  unfold alike
  by_cases q1 : a = a' <;> by_cases q2 : b = b' <;>
    simp [Op.eqFields, Sem.run_bind, hi, h0, h1, e, q1, q2, Result.andThen_ok, Sem.run_ite, Sem.run_pure]
theorem share_eql (a b a' b' : Nat) (w : World) :
    (binOp .eql 33 (.agg #[.int .u64 (a : Int), .int .u64 (b : Int)]) (.agg #[.int .u64 (a' : Int), .int .u64 (b' : Int)])).run Try.prog w = .ok (.bool (alike a b a' b')) w := by
  rw [run_eql_struct, share_same]
  rfl
theorem share_neq (a b a' b' : Nat) (w : World) :
    (binOp .neq 33 (.agg #[.int .u64 (a : Int), .int .u64 (b : Int)]) (.agg #[.int .u64 (a' : Int), .int .u64 (b' : Int)])).run Try.prog w = .ok (.bool (!alike a b a' b')) w := by
  rw [run_neq_struct, share_same]
  rfl
theorem share_free (op : BinOp) (x y : Operand) (xs ys : Array Value) (w : World) : (eqGuard op 33 x y (.agg xs) (.agg ys)).run Try.prog w = .ok () w :=
  run_eqGuard_agg w op 33 x y xs ys share_guard

/-! ### places compared -/
theorem place_under : Try.prog.underlying 57 = some (.struct (Try.prog.fieldsOf 57)) := by kernel_rfl
theorem place_held : Try.prog.stoodInHeld 57 = false := by kernel_rfl
theorem place_guard : Try.prog.eqGuardType Try.prog.depth 57 = false := by kernel_rfl
theorem place_same (a a' : Nat) (w : World) (n : Nat) :
    (Op.equalIn (n + 2) 57 (.agg #[.int .u64 (a : Int)]) (.agg #[.int .u64 (a' : Int)])).run Try.prog w = .ok (decide (a = a')) w := by
  rw [run_equalIn_struct w (n + 1) 57 _ _ place_under place_held]
  have hf : (Try.prog.fieldsOf 57).toList = [{ name := "at", type := 22, offset := 0, embedded := false, tag := "", pkgPath := "huddle/share", byteOffset := 0 }] := by
    simp [Program.fieldsOf, Try.underlying57]
  rw [hf]
  have hi := fun (w : World) (x y : Nat) => run_equalIn_int (P := Try.prog) w n 22 .u64 .u64 (x : Int) (y : Int) Try.underlying22
  have e : ∀ x y : Nat, ((x : Int) == (y : Int)) = decide (x = y) := fun x y => by
    by_cases h : x = y
    · rw [decide_eq_true h, beq_iff_eq]; omega
    · rw [decide_eq_false h, beq_eq_false_iff_ne]; omega
  have hp := fun (w : World) (xs : Array Value) (i : Nat) (v : Value) (h : xs[i]? = some v) => (show (part 22 xs i).run Try.prog w = .ok v w by simp [part, isAgg, go_sem, run_underlying Try.underlying22, h])
  have h0 := fun (w : World) (x0 : Nat) => hp w #[.int .u64 (x0 : Int)] 0 _ rfl
  by_cases q1 : a = a' <;>
    simp [Op.eqFields, Sem.run_bind, hi, h0, e, q1, Result.andThen_ok, Sem.run_ite, Sem.run_pure]
theorem place_neq (a a' : Nat) (w : World) :
    (binOp .neq 57 (.agg #[.int .u64 (a : Int)]) (.agg #[.int .u64 (a' : Int)])).run Try.prog w = .ok (.bool (!decide (a = a'))) w := by
  rw [run_neq_struct, place_same]
  rfl
theorem place_free (op : BinOp) (x y : Operand) (xs ys : Array Value) (w : World) : (eqGuard op 57 x y (.agg xs) (.agg ys)).run Try.prog w = .ok () w :=
  run_eqGuard_agg w op 57 x y xs ys place_guard

end Go.Proofs.Ythnbkbmhlalpaaa
