/-
  The library's slices.Backward over numbers of 64 bits: an iterator that hands out places and numbers, the last first, for every loop body that keeps what the iterator reads.
-/
import Derived.Test.YtalljoneflepiaaCut
import Derived.Test.YtalljoneflepiaaWords
namespace Go.Proofs.Ytalljoneflepiaa
open Go.RowKit Go.Shelf
attribute [local go_sem] Oper.semAt_some

/-- A place below n, and a number of 64 bits. -/
def Pr (n : Nat) : Type := { p : Nat × Nat // p.1 < n ∧ p.2 < 18446744073709551616 }
def Pr.idx {n : Nat} (x : Pr n) : Nat := (Subtype.val x).1
def Pr.num {n : Nat} (x : Pr n) : Nat := (Subtype.val x).2
theorem Pr.ilt {n : Nat} (x : Pr n) : x.idx < n := (Subtype.property x).1
theorem Pr.lt {n : Nat} (x : Pr n) : x.num < 18446744073709551616 := (Subtype.property x).2
def Pr.enc {n : Nat} (x : Pr n) : Array Value := #[Value.int .i64 (x.idx : Int), Value.int .u64 (x.num : Int)]
def Pr.mk {n : Nat} (i v : Nat) (hi : i < n) (h : v < 18446744073709551616) : Pr n := ⟨(i, v), hi, h⟩
theorem Pr.mk_idx {n : Nat} (i v : Nat) (hi : i < n) (h : v < 18446744073709551616) : (Pr.mk i v hi h).idx = i := rfl
theorem Pr.mk_num {n : Nat} (i v : Nat) (hi : i < n) (h : v < 18446744073709551616) : (Pr.mk i v hi h).num = v := rfl

/-- What has come: the places from n - 1 down, each with a number that Q lets by. -/
def Seen (n : Nat) (Q : Nat → Nat → Prop) (pre : List (Pr n)) : Prop := pre.length ≤ n ∧ ∀ j x, pre[j]? = some x → x.idx + (j + 1) = n ∧ Q x.idx x.num
theorem Seen.nil (n : Nat) (Q : Nat → Nat → Prop) : Seen n Q [] := ⟨Nat.zero_le _, fun j x h => by simp at h⟩
theorem Seen.snoc {n : Nat} {Q : Nat → Nat → Prop} {pre : List (Pr n)} (h : Seen n Q pre) (i v : Nat) (hin : i < n) (hv : v < 18446744073709551616) (hi : i + (pre.length + 1) = n) (hq : Q i v) : Seen n Q (pre ++ [Pr.mk i v hin hv]) := by
  refine ⟨by simp; omega, fun j x hx => ?_⟩
  rcases Nat.lt_trichotomy j pre.length with h1 | h1 | h1
  · rw [List.getElem?_append_left h1] at hx; exact h.2 j x hx
  · subst h1
    rw [List.getElem?_concat_length] at hx
    injection hx with hx
    subst hx
    exact ⟨hi, hq⟩
  · rw [List.getElem?_eq_none (by simp; omega)] at hx; cases hx

theorem back_call (F : Fence) (n : Nat) (hF : F.fn 68) (hro : F.round = none) (A : Option Addr) (m c : Nat) (w : World) :
    CallsIn F n Try.prog 68 #[.slice A m c] w fun e w' => e = .returned (.func (.func 73) #[] #[.pointer (some ⟨w.heap.size, 0, none⟩)]) ∧ w' = w.alloc (.cells #[.slice A m c] 22) := by
  refine callsIn_of_wp Try.func68 rfl hF ?_ hro
  simp only [Try.ntmps68, List.size_toArray, List.length_cons, List.length_nil, Nat.reduceAdd, Nat.reduceSub, Array.replicate_succ, Array.replicate_zero, List.push_toArray, List.append_toArray, List.nil_append, List.cons_append]
  gi_wp2
  go_ret
  exact ⟨rfl, rfl⟩

/-- What the iterator reads: its slice, and numbers at its places. -/
def Reads (Bn : Nat) (A : Option Addr) (m c : Nat) (Q : Nat → Nat → Prop) (W : World) : Prop :=
  W.cell? ⟨Bn, 0, none⟩ = some (.slice A m c) ∧ ∀ i, i < m → ∃ b off v, A = some ⟨b, off, none⟩ ∧ v < 18446744073709551616 ∧ Q i v ∧ W.cell? ⟨b, off + i, none⟩ = some (.int .u64 (v : Int))

set_option maxRecDepth 100000 in
set_option maxHeartbeats 1000000 in
theorem back_in (n : Nat) (hn : 1 ≤ n) (l Bn : Nat) (A : Option Addr) (m c : Nat) (hm : m ≤ 1000000000) (Q : Nat → Nat → Prop) (M : World → Prop) (Kp : World → World → Prop)
    (hR : ∀ W, M W → Reads Bn A m c Q W) (hK : ∀ W W', M W → Kp W W' → M W') (J Jx : List (Pr m) → World → Prop)
    (hY : ∀ pre x W, J pre W → pre.length < m → YieldAt Fence.wide (n - 1) Try.prog l x.enc W fun e W' =>
      (e = .returned (.bool true) ∧ J (pre ++ [x]) W' ∧ Kp W W') ∨ (e = .returned (.bool false) ∧ Jx (pre ++ [x]) W'))
    (W : World) (hM : M W) (h0 : J [] W) :
    CallsIn Fence.wide n Try.prog 73 #[.func (.yield l) #[] #[], .pointer (some ⟨Bn, 0, none⟩)] W fun e W' => (∃ r, e = .returned r) ∧
      ((∃ ys, (Seen m Q ys ∧ ys.length = m) ∧ J ys W') ∨ (∃ pre, True ∧ Jx pre W')) := by
  have hc0 := (hR W hM).1
  refine callsIn_of_wp Try.func73 rfl trivial ?_ rfl
  simp only [Try.ntmps73, List.size_toArray, List.length_cons, List.length_nil, Nat.reduceAdd, Nat.reduceSub, Array.replicate_succ, Array.replicate_zero, List.push_toArray, List.append_toArray, List.nil_append, List.cons_append]
  gi_wp2
  gi_loopw [3] (fun p wr => ∃ (k : Nat) (z : Int) (pre : List (Pr m)), p = .int .i64 z ∧ z = (k : Int) - 1 ∧ pre.length + k = m ∧ Seen m Q pre ∧ M wr ∧ J pre wr)
    (fun p _ => (intOf p + 1).toNat)
  case atStart =>
    exact ⟨m, _, [], rfl, rfl, by simp, Seen.nil m Q, hM, h0⟩
  case round =>
    obtain ⟨k, z, pre, rfl, hz, hlen, hseen, hMr, hJ⟩ := hrel
    cases k with
    | zero =>
      obtain rfl : z = -1 := by omega
      have HL := Lib.hid hlen
      clear hlen hz
      gi_wp2
      go_end0
      exact ⟨⟨_, rfl⟩, .inl ⟨pre, ⟨hseen, by have := HL.out; omega⟩, hJ⟩⟩
    | succ j =>
      obtain rfl : z = (j : Int) := by omega
      have hjm : j < m := by omega
      obtain ⟨hcc, hcv⟩ := hR wr hMr
      obtain ⟨b, off, v, rfl, hv, hq, hcell⟩ := hcv j (by omega)
      obtain ⟨fn, tmps, assign, body, hy, hRR⟩ := hY pre (Pr.mk j v hjm hv) wr hJ (by omega)
      unfold Pr.enc at hy
      rw [Pr.mk_idx, Pr.mk_num] at hy
      have hsn := hseen.snoc j v hjm hv (by omega) hq
      have q0 : (0 : Int) ≤ (j : Int) := by omega
      have q1 : (j : Int) < (m : Int) := by omega
      have HLN := Lib.hid hlen
      have HSN := Lib.hid hsn
      have HQ := Lib.hid hq
      clear hcv hlen hsn hq hz hseen
      gi_wp2
      refine hRR.mono ?_
      rintro e W3 (⟨rfl, hJ3, hk3⟩ | ⟨rfl, hJx3⟩)
      · gi_wp2
        go_roundw
        case rel => exact ⟨j, (j : Int) - 1, pre ++ [Pr.mk j v hjm hv], rfl, rfl, by have := HLN.out; simp; omega, HSN.out, hK _ _ hMr hk3, hJ3⟩
        case measure => simp [intOf]
      · gi_wp2
        refine bodyPost_ret (results_none rfl _ _ _) rfl ?_
        exact ⟨⟨_, rfl⟩, .inr ⟨_, trivial, hJx3⟩⟩

theorem back_stops (n : Nat) (hn : 1 ≤ n) (Bn : Nat) (A : Option Addr) (m c : Nat) (hm : m ≤ 1000000000) (Q : Nat → Nat → Prop) (M : World → Prop) (Kp : World → World → Prop)
    (hR : ∀ W, M W → Reads Bn A m c Q W) (hK : ∀ W W', M W → Kp W W' → M W') (w : World) (hM : ∀ W, Below w.heap.size w W → M W) :
    SeqStopsK Fence.wide n Try.prog 73 #[.pointer (some ⟨Bn, 0, none⟩)] Pr.enc Kp (fun ys => Seen m Q ys ∧ ys.length = m) (fun _ => True) m w := fun l J Jx W hW _ _ hY h0 =>
  back_in n hn l Bn A m c hm Q M Kp hR hK J Jx hY W (hM W hW) h0

end Go.Proofs.Ytalljoneflepiaa
