/-
  The set of places that package share's through keeps (a map with struct keys): asked, and one more put into it.
-/
import Derived.Test.YthnbkbmhlalpaaaShg
import Derived.Maps.Own
import Derived.Maps.OwnOps
import Derived.DeepKeys4
namespace Go.Proofs.Ythnbkbmhlalpaaa
open Go.RowKit Go.Maps
open Go.ChangeMaps (setBlock heap_setBlock_same heap_setBlock_other)

theorem place_laid : laidOutB Try.prog = true := by kernel_rfl
theorem place_row : (57 : TypeId) < Try.prog.types.size := of_decide_eq_true (by kernel_rfl)
theorem place_wide : (match Try.prog.underlying 57 with | some (.array _ _) | some (.struct _) => true | _ => false) = true := by kernel_rfl
theorem place_law : Keyed Try.prog 57 := Keyed.of_law (deep_law_laid place_laid (m := 2) (by omega) place_row (by kernel_rfl) place_wide)
/-- A place, as a key. -/
def pk (a : Nat) : Value := .agg #[.int .u64 (a : Int)]
theorem place_type : Try.prog.keyType 57 = true := by kernel_rfl
theorem place_key {a : Nat} (ha : a < 18446744073709551616) : ∃ l, keyOf Try.prog 57 (pk a) = some l := by
  have hw : (Lit.int .u64 (a : Int)).wf = true := WalkArith.wf_u64 (by omega)
  have hf : (pk a).formed Try.prog 57 = true := by
    have hc : Try.prog.cellsOf 57 = 1 := by kernel_rfl
    simp [pk, Value.formed, hc]
  unfold keyOf
  rw [place_under]
  simp only [place_type, hf, Bool.and_self, if_true]
  obtain ⟨d, hd⟩ : ∃ d, Try.prog.types.size = d + 1 := ⟨Try.prog.types.size - 1, (Nat.succ_pred_eq_of_pos (Nat.lt_of_le_of_lt (Nat.zero_le _) place_row)).symm⟩
  have hc : Try.prog.cellsOf 57 = 1 := by kernel_rfl
  have hu : Try.prog.cellsOf 22 = 1 := by kernel_rfl
  have hin : Try.prog.keyLits (d + 1) 22 [.int .u64 (a : Int)] = some [.int .u64 (a : Int)] := by
    unfold Program.keyLits
    simp only [Try.underlying22, hw, and_self, if_true]
  rw [hd]
  have hout : Try.prog.keyLits (d + 1 + 1) 57 (pk a).cells.toList = some [.int .u64 (a : Int)] := by
    have e : (pk a).cells.toList = [.int .u64 (a : Int)] := rfl
    rw [e]
    unfold Program.keyLits
    simp [Try.underlying57, hc, hu, hin]
  rw [hout]
  exact ⟨_, rfl⟩
theorem pk_inj {a b : Nat} (h : pk a = pk b) : a = b := by
  unfold pk at h
  simp at h
  omega

/-- Block b is the set of places S. -/
def Tk (w : World) (b : Nat) (S : List Nat) : Prop := (∃ es clock, w.heap[b]? = some (.map es clock) ∧ es.toList.map MapEntry.key = S.map pk ∧ ∀ e ∈ es.toList, e.val = .bool true) ∧ ∀ a ∈ S, a < 18446744073709551616
theorem Tk.lt {w : World} {b : Nat} {S : List Nat} (h : Tk w b S) : b < w.heap.size := by
  obtain ⟨⟨es, clock, hb, _⟩, _⟩ := h
  exact (Array.getElem?_eq_some_iff.1 hb).1
theorem Tk.kept {w w' : World} {b : Nat} {S : List Nat} {row : Option Nat} (h : Tk w b S) (hg : w.grownBy w' row) (hne : some b ≠ row) : Tk w' b S := by
  have hlt := h.lt
  obtain ⟨⟨es, clock, hb, h2, h3⟩, h4⟩ := h
  exact ⟨⟨es, clock, (hg.block b hlt hne).trans hb, h2, h3⟩, h4⟩
theorem Tk.below {w w' : World} {b : Nat} {S : List Nat} (h : Tk w b S) (hb : Below w.heap.size w w') : Tk w' b S := h.kept (below_grown hb none) (by simp)
theorem Tk.new {w : World} {b : Nat} {S : List Nat} (h : Tk w b S) (x : Obj) : Tk (w.alloc x) b S := h.below ((Below.refl _ w).alloc (Nat.le_refl _) _)
theorem Tk.made (w : World) : Tk (w.alloc (.map #[] 0)) w.heap.size [] := ⟨⟨#[], 0, heap_alloc_new w _, rfl, by simp⟩, by simp⟩
theorem Tk.entry {w : World} {b : Nat} {S : List Nat} (h : Tk w b S) : ∃ es clock, w.heap[b]? = some (.map es clock) ∧ (∀ e ∈ es.toList, ∃ l, keyOf Try.prog 57 e.key = some l) ∧ (∀ e ∈ es.toList, e.val = .bool true) ∧ (∀ a, (∃ e ∈ es.toList, e.key = pk a) ↔ a ∈ S) ∧ es.toList.map MapEntry.key = S.map pk := by
  obtain ⟨⟨es, clock, hb, h2, h3⟩, h4⟩ := h
  have hk : ∀ e ∈ es.toList, ∃ a ∈ S, e.key = pk a := fun e he => by
    have h5 : e.key ∈ S.map pk := h2 ▸ List.mem_map.2 ⟨e, he, rfl⟩
    obtain ⟨a, ha, e5⟩ := List.mem_map.1 h5
    exact ⟨a, ha, e5.symm⟩
  refine ⟨es, clock, hb, fun e he => ?_, h3, fun a => ?_, h2⟩
  · obtain ⟨a, ha, e5⟩ := hk e he
    rw [e5]
    exact place_key (h4 a ha)
  · constructor
    · rintro ⟨e, he, e5⟩
      obtain ⟨a', ha, e6⟩ := hk e he
      rwa [pk_inj (e5.symm.trans e6)]
    · intro ha
      have h5 : pk a ∈ es.toList.map MapEntry.key := h2 ▸ List.mem_map.2 ⟨a, ha, rfl⟩
      obtain ⟨e, he, e5⟩ := List.mem_map.1 h5
      exact ⟨e, he, e5⟩

theorem Tk.look {w : World} {b a : Nat} {S : List Nat} (h : Tk w b S) (ha : a < 18446744073709551616) : (Instr.lookup 66 (.map (some b)) (pk a) false).run Try.prog w = .ok (.bool (decide (a ∈ S))) w := by
  obtain ⟨es, clock, hb, hk, hv, hm, _⟩ := h.entry
  obtain ⟨l, hkey⟩ := place_key ha
  have ht := Try.underlying66
  have hz : (zeroValue 4).run Try.prog w = .ok (.bool false) w := by kernel_rfl
  rcases place_law.find w hkey es.toList hk with ⟨h1, h2⟩ | ⟨j, e0, h1, h2, h3⟩
  · have e : decide (a ∈ S) = false := decide_eq_false fun hin => by
      obtain ⟨e, he, e5⟩ := (hm a).2 hin
      exact h2 e he e5
    rw [e]
    simp [Instr.lookup, run_underlying ht, MapKept.run_getObj_map hb, place_law.check w _ hkey, h1, hz, Result.andThen]
  · have he0 : e0 ∈ es.toList := List.mem_of_getElem? h2
    have e : decide (a ∈ S) = true := decide_eq_true ((hm a).1 ⟨e0, he0, h3⟩)
    rw [e]
    simp [Instr.lookup, run_underlying ht, MapKept.run_getObj_map hb, place_law.check w _ hkey, h1, hv e0 he0, Result.andThen]
theorem Tk.store {w : World} {b a : Nat} {S : List Nat} (h : Tk w b S) (ha : a < 18446744073709551616) (hno : a ∉ S) : ∃ w', (Instr.mapUpdate 66 (.map (some b)) (pk a) (.bool true)).run Try.prog w = .ok () w' ∧ Tk w' b (S ++ [a]) ∧ w.grownBy w' (some b) := by
  have h4 := h.2
  obtain ⟨es, clock, hb, hk, hv, hm, h2⟩ := h.entry
  obtain ⟨l, hkey⟩ := place_key ha
  have ht := Try.underlying66
  rcases place_law.find w hkey es.toList hk with ⟨h1, h3⟩ | ⟨j, e0, h1, h3, h5⟩
  · refine ⟨setBlock w b (.map (es.push ⟨pk a, .bool true, clock⟩) (clock + 1)), ?_, ⟨⟨_, _, heap_setBlock_same hb _, ?_, ?_⟩, ?_⟩, ⟨rfl, rfl, rfl, by simp [setBlock], fun i _ hi => heap_setBlock_other hb _ (fun e => hi (by rw [e]))⟩⟩
    · simp [Instr.mapUpdate, run_underlying ht, MapKept.run_getObj_map hb, place_law.check w false hkey, h1, MapKept.run_setObj_map _ hb, Result.andThen, setBlock]
    · rw [Array.toList_push, List.map_append, List.map_append, h2]; rfl
    · intro e he
      rw [Array.toList_push] at he
      rcases List.mem_append.1 he with h6 | h6
      · exact hv e h6
      · rw [List.mem_singleton.1 h6]
    · intro x hx
      rcases List.mem_append.1 hx with h6 | h6
      · exact h4 x h6
      · rw [List.mem_singleton.1 h6]; exact ha
  · exact absurd ((hm a).1 ⟨e0, List.mem_of_getElem? h3, h5⟩) hno

theorem wpList_look {ops : Array Oper} {rest : List Oper} {o : Oper} {a : Act} {Q : Exit → Act → World → Prop} (w : World) (hgd : o.guard = none) (m x : Operand) (hop : o.op = Op.lookup 66 m x false)
    (b k : Nat) (S : List Nat) (q : Bool) (h : Tk w b S) (hm : a.eval m = .map (some b)) (hx : a.eval x = .agg #[.int .u64 (k : Int)]) (hk : k < 18446744073709551616) (hq : q = decide (k ∈ S))
    (hK : wpList Try.prog ops Q rest (a.put o.dst (.bool q)) w) : wpList Try.prog ops Q (o :: rest) a w := by
  refine wpList_plain hgd fun K' hK' => ?_
  have hrun := h.look hk
  unfold pk at hrun
  unfold Oper.wp
  simp [execOp, hop, hm, hx, hrun, Result.andThen]
  rw [← hq]
  exact hK' _ _ hK
theorem wpList_store {ops : Array Oper} {rest : List Oper} {o : Oper} {a : Act} {Q : Exit → Act → World → Prop} (w : World) (hgd : o.guard = none) (m x v : Operand) (hop : o.op = Op.mapUpdate 66 m x v ∨ o.op = Op.insert 66 m x v)
    (b k : Nat) (S : List Nat) (h : Tk w b S) (hm : a.eval m = .map (some b)) (hx : a.eval x = .agg #[.int .u64 (k : Int)]) (hv : a.eval v = .bool true) (hk : k < 18446744073709551616) (hno : k ∉ S)
    (hK : ∀ w', Tk w' b (S ++ [k]) → w.grownBy w' (some b) → wpList Try.prog ops Q rest (a.put o.dst undef) w') : wpList Try.prog ops Q (o :: rest) a w := by
  refine wpList_plain hgd fun K' hK' => ?_
  obtain ⟨w', hrun, h1, h2⟩ := h.store hk hno
  unfold pk at hrun
  unfold Oper.wp
  rcases hop with hop | hop
  · simp [execOp, hop, hm, hx, hv, hrun, Result.andThen]
    exact hK' _ _ (hK w' h1 h2)
  · simp [execOp, hop, hm, hx, hv, hrun, Result.andThen]
    exact hK' _ _ (hK w' h1 h2)

end Go.Proofs.Ythnbkbmhlalpaaa
