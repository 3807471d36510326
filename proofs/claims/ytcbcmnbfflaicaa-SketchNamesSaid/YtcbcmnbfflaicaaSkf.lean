/-
  The library's slices.Backward over rows of numbers: an iterator that hands out places and rows, the last first, for every loop body that keeps what the iterator reads.
-/
import Derived.Test.YtcbcmnbfflaicaaSkd
import Derived.RangeFuncCalls
namespace Go.Proofs.Ytcbcmnbfflaicaa
open Go.RowKit Go.Shelf
attribute [local go_sem] Oper.semAt_some

/-- A place below n, and what stands there, as Q says. -/
def Ps (n : Nat) (Q : Nat → Value → Prop) : Type := { p : Nat × Value // p.1 < n ∧ Q p.1 p.2 }
def Ps.idx {n : Nat} {Q : Nat → Value → Prop} (x : Ps n Q) : Nat := (Subtype.val x).1
def Ps.val {n : Nat} {Q : Nat → Value → Prop} (x : Ps n Q) : Value := (Subtype.val x).2
theorem Ps.ilt {n : Nat} {Q : Nat → Value → Prop} (x : Ps n Q) : x.idx < n := (Subtype.property x).1
theorem Ps.is {n : Nat} {Q : Nat → Value → Prop} (x : Ps n Q) : Q x.idx x.val := (Subtype.property x).2
def Ps.enc {n : Nat} {Q : Nat → Value → Prop} (x : Ps n Q) : Array Value := #[Value.int .i64 (x.idx : Int), x.val]
def Ps.mk {n : Nat} {Q : Nat → Value → Prop} (i : Nat) (v : Value) (hi : i < n) (hq : Q i v) : Ps n Q := ⟨(i, v), hi, hq⟩
theorem Ps.mk_idx {n : Nat} {Q : Nat → Value → Prop} (i : Nat) (v : Value) (hi : i < n) (hq : Q i v) : (Ps.mk i v hi hq).idx = i := rfl
theorem Ps.mk_val {n : Nat} {Q : Nat → Value → Prop} (i : Nat) (v : Value) (hi : i < n) (hq : Q i v) : (Ps.mk i v hi hq).val = v := rfl

/-- What has come: the places from n - 1 down. -/
def SeenS (n : Nat) (Q : Nat → Value → Prop) (pre : List (Ps n Q)) : Prop := pre.length ≤ n ∧ ∀ j x, pre[j]? = some x → x.idx + (j + 1) = n
theorem SeenS.nil (n : Nat) (Q : Nat → Value → Prop) : SeenS n Q [] := ⟨Nat.zero_le _, fun j x h => by simp at h⟩
theorem SeenS.snoc {n : Nat} {Q : Nat → Value → Prop} {pre : List (Ps n Q)} (h : SeenS n Q pre) (i : Nat) (v : Value) (hin : i < n) (hi : i + (pre.length + 1) = n) (hq : Q i v) : SeenS n Q (pre ++ [Ps.mk i v hin hq]) := by
  refine ⟨by simp; omega, fun j x hx => ?_⟩
  rcases Nat.lt_trichotomy j pre.length with h1 | h1 | h1
  · rw [List.getElem?_append_left h1] at hx; exact h.2 j x hx
  · subst h1
    rw [List.getElem?_concat_length] at hx
    injection hx with hx
    subst hx
    exact hi
  · rw [List.getElem?_eq_none (by simp; omega)] at hx; cases hx
theorem SeenS.init {n : Nat} {Q : Nat → Value → Prop} {pre : List (Ps n Q)} {x : Ps n Q} (h : SeenS n Q (pre ++ [x])) : SeenS n Q pre ∧ x.idx + (pre.length + 1) = n := by
  have h1 := h.2 pre.length x (by rw [List.getElem?_concat_length])
  exact ⟨⟨by have := h.1; simp at this; omega, fun j y hj => h.2 j y (by rw [List.getElem?_append_left (List.getElem?_eq_some_iff.1 hj).1]; exact hj)⟩, h1⟩

theorem backs_call (F : Fence) (n : Nat) (hF : F.fn 61) (hro : F.round = none) (A : Option Addr) (m c : Nat) (w : World) :
    CallsIn F n Try.prog 61 #[.slice A m c] w fun e w' => e = .returned (.func (.func 74) #[] #[.pointer (some ⟨w.heap.size, 0, none⟩)]) ∧ w' = w.alloc (.cells #[.slice A m c] 75) := by
  refine callsIn_of_wp Try.func61 rfl hF ?_ hro
  simp only [Try.ntmps61, List.size_toArray, List.length_cons, List.length_nil, Nat.reduceAdd, Nat.reduceSub, Array.replicate_succ, Array.replicate_zero, List.push_toArray, List.append_toArray, List.nil_append, List.cons_append]
  gi_wp2
  go_ret
  exact ⟨rfl, rfl⟩

/-- What the iterator reads: its slice, and numbers at its places. -/
def ReadsS (Bn : Nat) (A : Option Addr) (m c : Nat) (Q : Nat → Value → Prop) (W : World) : Prop :=
  W.cell? ⟨Bn, 0, none⟩ = some (.slice A m c) ∧ ∀ i, i < m → ∃ b off v, A = some ⟨b, off, none⟩ ∧ Q i v ∧ W.cell? ⟨b, off + i, none⟩ = some v

set_option maxRecDepth 100000 in
set_option maxHeartbeats 1000000 in
theorem backs_in (n : Nat) (hn : 1 ≤ n) (l Bn : Nat) (A : Option Addr) (m c : Nat) (hm : m ≤ 1000000000) (Q : Nat → Value → Prop) (M : World → Prop) (Kp : World → World → Prop)
    (hR : ∀ W, M W → ReadsS Bn A m c Q W) (hK : ∀ W W', M W → Kp W W' → M W') (J Jx : List (Ps m Q) → World → Prop)
    (hY : ∀ pre x W, J pre W → pre.length < m → YieldAt Fence.wide (n - 1) Try.prog l x.enc W fun e W' =>
      (e = .returned (.bool true) ∧ J (pre ++ [x]) W' ∧ Kp W W') ∨ (e = .returned (.bool false) ∧ Jx (pre ++ [x]) W'))
    (W : World) (hM : M W) (h0 : J [] W) :
    CallsIn Fence.wide n Try.prog 74 #[.func (.yield l) #[] #[], .pointer (some ⟨Bn, 0, none⟩)] W fun e W' => (∃ r, e = .returned r) ∧
      ((∃ ys, (SeenS m Q ys ∧ ys.length = m) ∧ J ys W') ∨ (∃ pre, True ∧ Jx pre W')) := by
  have hc0 := (hR W hM).1
  refine callsIn_of_wp Try.func74 rfl trivial ?_ rfl
  simp only [Try.ntmps74, List.size_toArray, List.length_cons, List.length_nil, Nat.reduceAdd, Nat.reduceSub, Array.replicate_succ, Array.replicate_zero, List.push_toArray, List.append_toArray, List.nil_append, List.cons_append]
  gi_wp2
  gi_loopw [3] (fun p wr => ∃ (k : Nat) (z : Int) (pre : List (Ps m Q)), p = .int .i64 z ∧ z = (k : Int) - 1 ∧ pre.length + k = m ∧ SeenS m Q pre ∧ M wr ∧ J pre wr)
    (fun p _ => (intOf p + 1).toNat)
  case atStart =>
    exact ⟨m, _, [], rfl, rfl, by simp, SeenS.nil m Q, hM, h0⟩
  case round =>
    obtain ⟨k, z, pre, rfl, hz, hlen, hseen, hMr, hJ⟩ := hrel
    cases k with
    | zero =>
      obtain rfl : z = -1 := by omega
      have HL := Lib.hid hlen
      clear hlen hz
      gi_wp2
      go_end0
      exact ⟨⟨_, rfl⟩, .inl ⟨pre, ⟨hseen, by have := HL.out; omega⟩, hJ⟩⟩
    | succ j =>
      obtain rfl : z = (j : Int) := by omega
      have hjm : j < m := by omega
      obtain ⟨hcc, hcv⟩ := hR wr hMr
      obtain ⟨b, off, v, rfl, hq, hcell⟩ := hcv j (by omega)
      obtain ⟨fn, tmps, assign, body, hy, hRR⟩ := hY pre (Ps.mk j v hjm hq) wr hJ (by omega)
      unfold Ps.enc at hy
      rw [Ps.mk_idx, Ps.mk_val] at hy
      have hsn := hseen.snoc j v hjm (by omega) hq
      have q0 : (0 : Int) ≤ (j : Int) := by omega
      have q1 : (j : Int) < (m : Int) := by omega
      have HLN := Lib.hid hlen
      have HSN := Lib.hid hsn
      clear hcv hlen hsn hz hseen
      gi_wp2
      refine hRR.mono ?_
      rintro e W3 (⟨rfl, hJ3, hk3⟩ | ⟨rfl, hJx3⟩)
      · gi_wp2
        go_roundw
        case rel => exact ⟨j, (j : Int) - 1, pre ++ [Ps.mk j v hjm hq], rfl, rfl, by have := HLN.out; simp; omega, HSN.out, hK _ _ hMr hk3, hJ3⟩
        case measure => simp [intOf]
      · gi_wp2
        refine bodyPost_ret (results_none rfl _ _ _) rfl ?_
        exact ⟨⟨_, rfl⟩, .inr ⟨_, trivial, hJx3⟩⟩

theorem backs_stops (n : Nat) (hn : 1 ≤ n) (Bn : Nat) (A : Option Addr) (m c : Nat) (hm : m ≤ 1000000000) (Q : Nat → Value → Prop) (M : World → Prop) (Kp : World → World → Prop)
    (hR : ∀ W, M W → ReadsS Bn A m c Q W) (hK : ∀ W W', M W → Kp W W' → M W') (w : World) (hM : ∀ W, Below w.heap.size w W → M W) :
    SeqStopsK Fence.wide n Try.prog 74 #[.pointer (some ⟨Bn, 0, none⟩)] Ps.enc Kp (fun ys => SeenS m Q ys ∧ ys.length = m) (fun _ => True) m w := fun l J Jx W hW _ _ hY h0 =>
  backs_in n hn l Bn A m c hm Q M Kp hR hK J Jx hY W (hM W hW) h0

end Go.Proofs.Ytcbcmnbfflaicaa
