/-
  The references' helpers: numbers, sorted, each once; small numbers; a secret; whether a number is one of some; a polynomial without roots.
-/
import Derived.Test.YtalljoneflepiaaRpg
import Derived.Test.YtalljoneflepiaaLwc
namespace Go.Proofs.Ytalljoneflepiaa
open Go.RowKit

/-! ### integers that came in -/
def ints (l : List Int) : List Value := l.map (Value.int .i64)
theorem ints_len (l : List Int) : (ints l).length = l.length := by simp [ints]
theorem row_i64 (w : World) (a : Option Addr) (len cap : Nat) (zs : List Int)
    (h : (a = none ∧ len = 0 ∧ cap = 0 ∧ zs = []) ∨
      ∃ x, a = some x ∧ len ≤ cap ∧ cap ≤ maxLen ∧ zs.length = cap ∧ (∀ i, i < zs.length → w.cell? (x.add i) = some (.int .i64 (zs.getD i 0))) ∧ ∀ n ∈ zs, (Lit.int .i64 n).wf = true) :
    ∃ l : List Int, len = l.length ∧ len ≤ 9223372036854775807 ∧ (∀ z ∈ l, -9223372036854775808 ≤ z ∧ z ≤ 9223372036854775807) ∧ Rd w.heap.size w a (ints l) := by
  have hlen : len ≤ 9223372036854775807 := by
    rcases h with ⟨_, rfl, _, _⟩ | ⟨x, _, hl, hm, _⟩
    · omega
    · unfold maxLen at hm; omega
  obtain ⟨h1, h2, _, h3, h4, h5⟩ := row_any .i64 w a len cap zs h
  refine ⟨zs.take len, h1.symm, hlen, fun z hz => ?_, fun hp => ?_⟩
  · have := bounds_i64 (h4 z hz)
    omega
  · rw [ints_len, h1] at hp
    obtain ⟨b, off, e, hb, hc⟩ := h5 hp
    refine ⟨b, off, e, hb, fun i u hu => ?_⟩
    unfold ints at hu
    rw [List.getElem?_map] at hu
    obtain ⟨n, hn, rfl⟩ := Option.map_eq_some_iff.1 hu
    exact hc i n hn
/-- A list of integers that came in. -/
def Iz (w : World) (A : Option Addr) (n : Nat) (l : List Int) : Prop := n = l.length ∧ n ≤ 9223372036854775807 ∧ (∀ z ∈ l, -9223372036854775808 ≤ z ∧ z ≤ 9223372036854775807) ∧ Rd w.heap.size w A (ints l)
theorem Iz.below {w w' : World} {A : Option Addr} {n : Nat} {l : List Int} (h : Iz w A n l) (hb : Below w.heap.size w w') : Iz w' A n l := ⟨h.1, h.2.1, h.2.2.1, (h.2.2.2.below hb).more hb.size⟩

/-! ### small numbers -/
set_option maxRecDepth 100000 in
set_option maxHeartbeats 4000000 in
theorem small_any {w : World} {A : Option Addr} {n c : Nat} {l : List Int} (h : Iz w A n l) (m : Nat) (hm : m ≤ 1000) :
    Calls Try.prog 28 #[.slice A n c, .int .i64 (m : Int)] w fun e w' => (∃ o L, e = .returned o ∧ Gl w.heap.size w' o L ∧ L.length ≤ m ∧ ∀ y ∈ L, y < 2305843009213693951) ∧ Below w.heap.size w w' := by
  have hn63 := h.2.1
  have H := Lib.hid h
  have hg0 := Gl.nil w.heap.size w
  have hb0 : Below w.heap.size w w := Below.refl _ _
  clear h
  go_enter Try.func28, Try.ntmps28
  go_wp2
  go_loopw [5, 6] (fun o i wr => ∃ (k : Nat) (L : List Nat), i = .int .i64 (k : Int) ∧ k ≤ n ∧ k ≤ m ∧ Gl w.heap.size wr o L ∧ L.length = k ∧ (∀ y ∈ L, y < 2305843009213693951) ∧ Below w.heap.size w wr) (fun _ i _ => m - (intOf i).toNat)
  case atStart => exact ⟨0, [], rfl, Nat.zero_le _, Nat.zero_le _, hg0, rfl, (by intro y hy; cases hy), hb0⟩
  case round =>
    obtain ⟨k, L, rfl, hk, hkm, hg, hlk, hly, hb⟩ := hrel
    have HG := Lib.hid hg
    have HLK := Lib.hid hlk
    have HLY := Lib.hid hly
    have hsz := hb.size
    clear hg hlk hly hg0 hb0
    rcases (show (k < n ∧ k < m) ∨ (¬ k < n) ∨ (k < n ∧ ¬ k < m) from by omega) with ⟨h1, h2⟩ | h1 | ⟨h1, h2⟩
    · obtain ⟨b, off, e1, hbb, hcl⟩ := H.out.2.2.2 (by rw [ints_len, ← H.out.1]; omega)
      have hkl : k < l.length := by rw [← H.out.1]; exact h1
      have hck := (hb.cell (p := ⟨b, off + k, none⟩) hbb).trans (hcl k (.int .i64 l[k]) (by simp [ints, List.getElem?_eq_getElem hkl]))
      have hzb := H.out.2.2.1 _ (List.getElem_mem hkl)
      obtain ⟨z, hz⟩ : ∃ z, z = l[k] := ⟨_, rfl⟩
      rw [← hz] at hck hzb
      clear hz hcl hkl
      have har := fun W => around_any z 80 W hzb.1 hzb.2 (by omega) (by omega)
      have HAR := Lib.hid har
      clear har hzb
      subst e1
      go_wp2_with fail
      refine (HAR.out _).mono ?_
      rintro e w' ⟨r, hr, rfl, rfl⟩
      have hlen : L.length ≤ 1000000000 := by rw [HLK.out]; omega
      by_cases hr4 : r < 40
      · have HP := Lib.hid (show ∀ y ∈ L ++ [r], y < 2305843009213693951 by
          intro y hy
          rcases List.mem_append.1 hy with h | h
          · exact HLY.out y h
          · rw [List.mem_singleton.1 h]; omega)
        have hr4I : (r : Int) < 40 := by omega
        go_wp2_with (at_builtin; refine wpList_push64 rfl _ _ rfl w.heap.size r _ _ HG.out rfl rfl hlen hsz ?_; intro u w9 hz1 hb1; have HZ1 := Lib.hid hz1; clear hz1)
        go_roundw
        case rel => exact ⟨k + 1, L ++ [r], by go_num, h1, h2, HZ1.out, by rw [List.length_append, HLK.out]; rfl, HP.out, hb.trans hb1⟩
        case measure => simp [intOf]; omega
      · obtain ⟨j, hj⟩ : ∃ j, j = r - 39 := ⟨_, rfl⟩
        obtain ⟨y, hy⟩ : ∃ y, y = 2305843009213693951 - j := ⟨_, rfl⟩
        have q1 : (r : Int) - 39 = (j : Int) := by omega
        have q2 : (2305843009213693951 : Int) - (j : Int) = (y : Int) := by omega
        have q3 : ¬ (r : Int) < 40 := by omega
        have q4 : (j : Int) ≤ 40 := by omega
        have HP := Lib.hid (show ∀ v ∈ L ++ [y], v < 2305843009213693951 by
          intro v hv
          rcases List.mem_append.1 hv with h | h
          · exact HLY.out v h
          · rw [List.mem_singleton.1 h]; omega)
        clear hj hy
        go_wp2_with (at_builtin; refine wpList_push64 rfl _ _ rfl w.heap.size y _ _ HG.out rfl rfl hlen hsz ?_; intro u w9 hz1 hb1; have HZ1 := Lib.hid hz1; clear hz1)
        go_roundw
        case rel => exact ⟨k + 1, L ++ [y], by go_num, h1, h2, HZ1.out, by rw [List.length_append, HLK.out]; rfl, HP.out, hb.trans hb1⟩
        case measure => simp [intOf]; omega
    all_goals
      go_wp2
      go_ret
      exact ⟨⟨_, L, rfl, HG.out, by rw [HLK.out]; exact hkm, HLY.out⟩, hb⟩

/-! ### a secret; a number among some -/
theorem secret_any (n : Nat) (w : World) : Calls Try.prog 35 #[.int .u64 (n : Int)] w fun e w' => (∃ v : Nat, e = .returned (.int .u64 (v : Int)) ∧ 0 < v ∧ v < 2305843009213693951) ∧ Below w.heap.size w w' := by
  obtain ⟨r, hr⟩ : ∃ r, r = n % 2305843009213693949 := ⟨_, rfl⟩
  have h1 : (n : Int) % 2305843009213693949 = (r : Int) := by omega
  have h2 : r < 2305843009213693949 := by omega
  obtain ⟨v, hv⟩ : ∃ v, v = r + 1 := ⟨_, rfl⟩
  have h3 : (1 : Int) + (r : Int) = (v : Int) := by omega
  have h4 : 0 < v ∧ v < 2305843009213693951 := by omega
  have H4 := Lib.hid h4
  clear hr hv h4
  go_enter Try.func35, Try.ntmps35
  go_wp2
  go_ret
  exact ⟨⟨v, rfl, H4.out⟩, Below.refl _ _⟩

/-! ### a list behind a list -/
theorem wpList_app64 {ops : Array Oper} {rest : List Oper} {o : Oper} {a : Act} {Q : Exit → Act → World → Prop} {w : World} (hgd : o.guard = none) (s x : Operand)
    (ho : o.op = .call { callee := .builtin .append, args := #[s, x], argTypes := #[22, 22] }) (B : Nat) (L l2 : List Nat) (u : Value) (A2 : Option Addr) (q c2 : Nat) (hg : Gl B w u L) (hs : a.eval s = u) (hx : a.eval x = .slice A2 q c2)
    (hq : q = l2.length) (hR : Rd w.heap.size w A2 (u64s l2)) (hnil : A2 = none → c2 = 0 ∧ q = 0) (hk : L.length + q ≤ 1000000000) (hB : B ≤ w.heap.size)
    (h : ∀ z w1, Gl B w1 z (L ++ l2) → Below B w w1 → wpList Try.prog ops Q rest (a.put o.dst z) w1) : wpList Try.prog ops Q (o :: rest) a w := by
  obtain ⟨i0, hi, hz0, hz1, hz2⟩ := info_parts info_u64
  obtain ⟨A, c, rfl, hrow⟩ := hg
  rcases A2 with _ | ad
  · obtain ⟨rfl, rfl⟩ := hnil rfl
    obtain rfl : l2 = [] := List.eq_nil_of_length_eq_zero hq.symm
    refine wpList_append_own_none hgd s x 22 ho B 23 i0 1 Try.underlying22 hi _ _ _ hs hrow hx ?_
    exact h _ w ⟨A, c, by rw [List.append_nil], by rw [List.append_nil]; exact hrow⟩ (Below.refl _ _)
  · refine wpList_append_own w hgd s x 22 ho B 23 i0 (.int .u64 0) 1 8 Try.underlying22 hi hz0 hz1 hz2 rfl (by decide) _ _ _ hs hrow ad q c2 (u64s l2) hx (by rw [u64s_len, hq, Nat.mul_one]) ?_ ?_ (by unfold maxLen; omega) (by omega) hB ?_
    · rcases Nat.eq_zero_or_pos q with h0 | h0
      · obtain rfl : l2 = [] := List.eq_nil_of_length_eq_zero (by omega)
        intro j v hv
        simp [u64s] at hv
      · obtain ⟨b, off, e, _, hc⟩ := hR (by rw [u64s_len]; omega)
        injection e with e
        subst e
        intro j v hv
        rw [Addr.add_lit]
        exact hc j v hv
    · intro v hv
      obtain ⟨y, _, rfl⟩ := List.mem_map.1 hv
      rfl
    · intro v' w1 hown hgrow _
      have hown2 : w1.ownsRow B 23 1 v' (L.length + q) (u64s (L ++ l2)) := by
        have e : u64s (L ++ l2) = u64s L ++ u64s l2 := by unfold u64s; rw [List.map_append]
        rw [e]; exact hown
      obtain ⟨A', c', rfl⟩ : ∃ A' c', v' = .slice A' (L.length + q) c' := by
        rcases hown.2 with ⟨rfl, h0⟩ | ⟨g, cp, _, rfl, _⟩
        · exact ⟨none, 0, by rw [h0]⟩
        · exact ⟨_, cp, rfl⟩
      refine h _ w1 ⟨A', c', by rw [List.length_append, hq], by rw [List.length_append, ← hq]; exact hown2⟩ ?_
      exact (Below.refl B w).grown hgrow hB (fun j e => (hrow.lt j e).1)

/-- What s[k:] is. -/
theorem slice_tail (A : Option Addr) (n c k q : Nat) (hk : k ≤ n) (hq : q = n - k) (hnc : n ≤ c) (hnil : A = none → c = 0) : ∃ A' c', (∀ W, (Instr.slice 22 (.slice A n c) (some (.int .i64 (k : Int))) none none).run Try.prog W = .ok (.slice A' q c') W) ∧ (A' = none → c' = 0 ∧ q = 0) ∧
    ∀ (B : Nat) (w : World) (l : List Nat), n = l.length → Rd B w A (u64s l) → Rd B w A' (u64s (l.drop k)) := by
  rcases A with _ | ad
  · have hc := hnil rfl
    subst hc
    obtain rfl : n = 0 := by omega
    obtain rfl : k = 0 := by omega
    obtain rfl : q = 0 := by omega
    refine ⟨none, 0, fun W => ?_, fun _ => ⟨rfl, rfl⟩, fun B w l hl h => ?_⟩
    · have hz : (sizeOf (Try.prog.elem 22)).run Try.prog W = .ok 1 W := by kernel_rfl
      have h := run_slice_l (P := Try.prog) W 22 none 0 0 (by kernel_rfl) .i64 ((0 : Nat) : Int) (by omega) (by omega)
      rw [h, hz]
      simp [Result.andThen, sliced]
    · rw [List.drop_zero]; exact h
  · refine ⟨if c = k then some ad else some (ad.add (k * 1)), c - k, fun W => ?_, (fun e => by split at e <;> cases e), fun B w l hl h => ?_⟩
    · have hz : (sizeOf (Try.prog.elem 22)).run Try.prog W = .ok 1 W := by kernel_rfl
      have h := run_slice_l (P := Try.prog) W 22 (some ad) n c (by kernel_rfl) .i64 (k : Int) (by omega) (by omega)
      rw [h, hz, hq]
      simp only [Result.andThen, sliced, Int.toNat_natCast, Option.map_some]
    · intro hp
      rw [u64s_len, List.length_drop] at hp
      obtain ⟨b, off, e, hb, hc⟩ := h (by rw [u64s_len]; omega)
      injection e with e
      subst e
      refine ⟨b, off + k, ?_, hb, fun i u hu => ?_⟩
      · rw [if_neg (by omega), Nat.mul_one, Addr.add_lit]
      · have h1 : (u64s l)[k + i]? = some u := by
          rw [← hu]
          unfold u64s
          rw [List.map_drop, List.getElem?_drop]
        have h2 := hc (k + i) u h1
        rwa [← Nat.add_assoc] at h2

theorem Gl.base {B B' : Nat} {w : World} {o : Value} {L : List Nat} (h : Gl B w o L) (hB : B' ≤ B) : Gl B' w o L := by
  obtain ⟨A, c, e, h1, h2⟩ := h
  refine ⟨A, c, e, h1, ?_⟩
  rcases h2 with h2 | ⟨g, cap, cur, h3, h4, h5⟩
  · exact .inl h2
  · exact .inr ⟨g, cap, cur, h3, Nat.le_trans hB h4, h5⟩

/-! ### sorted, each once -/
/-- The first i numbers, modulo the prime, rising, each once. -/
def Srtd (l : List Nat) (i : Nat) (L : List Nat) : Prop := L.Pairwise (· < ·) ∧ ∀ x, x ∈ L ↔ ∃ j, j < i ∧ x = Fld.num (l[j]?.getD 0)
theorem mem_getD {L : List Nat} {x : Nat} : x ∈ L ↔ ∃ j, j < L.length ∧ L[j]?.getD 0 = x := by
  constructor
  · intro h
    obtain ⟨j, hj, e⟩ := List.mem_iff_getElem.1 h
    exact ⟨j, hj, by rw [List.getElem?_eq_getElem hj]; exact e⟩
  · rintro ⟨j, hj, e⟩
    rw [List.getElem?_eq_getElem hj] at e
    exact e ▸ List.getElem_mem hj
theorem rise_lt {L : List Nat} (h : L.Pairwise (· < ·)) {i j : Nat} (hij : i < j) (hj : j < L.length) : L[i]?.getD 0 < L[j]?.getD 0 := by
  rw [List.getElem?_eq_getElem (by omega), List.getElem?_eq_getElem hj]
  exact List.pairwise_iff_getElem.1 h i j (by omega) hj hij
theorem Srtd.found {l L : List Nat} {i k : Nat} (h : Srtd l i L) (hk : k < L.length) (e : L[k]?.getD 0 = Fld.num (l[i]?.getD 0)) : Srtd l (i + 1) L :=
  ⟨h.1, fun x => by
    rw [h.2]
    constructor
    · rintro ⟨j, hj, e⟩; exact ⟨j, by omega, e⟩
    · rintro ⟨j, hj, e1⟩
      rcases Nat.lt_or_ge j i with h1 | h1
      · exact ⟨j, h1, e1⟩
      · obtain rfl : j = i := by omega
        exact (h.2 x).1 (mem_getD.2 ⟨k, hk, e.trans e1.symm⟩)⟩
theorem Srtd.put {l L : List Nat} {i k x : Nat} (h : Srtd l i L) (hx : x = Fld.num (l[i]?.getD 0)) (hk : k ≤ L.length) (h1 : ∀ j, j < k → L[j]?.getD 0 < x) (h2 : k < L.length → x < L[k]?.getD 0) : Srtd l (i + 1) (L.take k ++ [x] ++ L.drop k) := by
  refine ⟨?_, fun y => ?_⟩
  · rw [List.append_assoc, List.pairwise_append]
    refine ⟨h.1.sublist (List.take_sublist k L), ?_, ?_⟩
    · rw [List.singleton_append, List.pairwise_cons]
      refine ⟨fun b hb => ?_, h.1.sublist (List.drop_sublist k L)⟩
      obtain ⟨j, hj, e⟩ := mem_getD.1 hb
      rw [List.length_drop] at hj
      rw [List.getElem?_drop] at e
      rcases Nat.eq_zero_or_pos j with h0 | h0
      · subst h0; rw [← e]; exact h2 (by omega)
      · have := h2 (by omega)
        have := rise_lt h.1 (i := k) (j := k + j) (by omega) (by omega)
        omega
    · intro a ha b hb
      obtain ⟨j, hj, e⟩ := mem_getD.1 ha
      rw [List.length_take] at hj
      rw [List.getElem?_take, if_pos (by omega)] at e
      have h3 := h1 j (by omega)
      rcases List.mem_append.1 hb with hb | hb
      · rw [List.mem_singleton.1 hb]; omega
      · obtain ⟨m, hm, e2⟩ := mem_getD.1 hb
        rw [List.length_drop] at hm
        rw [List.getElem?_drop] at e2
        have := rise_lt h.1 (i := j) (j := k + m) (by omega) (by omega)
        omega
  · have e : y ∈ L.take k ++ [x] ++ L.drop k ↔ y = x ∨ y ∈ L := by
      rw [List.mem_append, List.mem_append, List.mem_singleton]
      constructor
      · rintro ((h | h) | h)
        · exact .inr (List.mem_of_mem_take h)
        · exact .inl h
        · exact .inr (List.mem_of_mem_drop h)
      · rintro (h | h)
        · exact .inl (.inr h)
        · rw [← List.take_append_drop k L, List.mem_append] at h
          rcases h with h | h
          · exact .inl (.inl h)
          · exact .inr h
    rw [e, h.2]
    constructor
    · rintro (h | ⟨j, hj, e⟩)
      · exact ⟨i, by omega, h.trans hx⟩
      · exact ⟨j, by omega, e⟩
    · rintro ⟨j, hj, e⟩
      rcases Nat.lt_or_ge j i with h1 | h1
      · exact .inr ⟨j, h1, e⟩
      · obtain rfl : j = i := by omega
        exact .inl (e.trans hx.symm)

set_option maxRecDepth 100000 in
set_option maxHeartbeats 8000000 in
theorem sorted_any (A : Option Addr) (n c : Nat) (l : List Nat) (w : World) (hn : n = l.length) (hn9 : n ≤ 1000) (hA : Rd w.heap.size w A (u64s l)) :
    Calls Try.prog 37 #[.slice A n c] w fun e w' => (∃ o L, e = .returned o ∧ Gl w.heap.size w' o L ∧ L.length ≤ n ∧ Srtd l n L) ∧ Below w.heap.size w w' := by
  have HN := Lib.hid hn
  have HA := Lib.hid hA
  have hg0 := Gl.nil w.heap.size w
  have hb0 : Below w.heap.size w w := Below.refl _ _
  have hs0 : Srtd l 0 [] := ⟨List.Pairwise.nil, fun x => ⟨fun h => absurd h List.not_mem_nil, fun ⟨j, h, _⟩ => absurd h (Nat.not_lt_zero j)⟩⟩
  have HS0 := Lib.hid hs0
  clear hn hA hs0
  go_enter Try.func37, Try.ntmps37
  go_wp2
  go_loopw [3, 4] (fun o i wr => ∃ (t : Nat) (L : List Nat), i = .int .i64 (t : Int) ∧ t ≤ n ∧ Gl w.heap.size wr o L ∧ L.length ≤ t ∧ Srtd l t L ∧ Below w.heap.size w wr) (fun _ i _ => n - (intOf i).toNat)
  case atStart => exact ⟨0, [], rfl, Nat.zero_le _, hg0, Nat.zero_le _, HS0.out, hb0⟩
  case round =>
    obtain ⟨i, L, rfl, hi, hg, hLi, hs, hb⟩ := hrel
    have HG := Lib.hid hg
    have HS := Lib.hid hs
    have hsz := hb.size
    clear hg hs hg0 hb0 HS0
    by_cases hlt : i < n
    · obtain ⟨b0, o0, e0, hb0, hc0⟩ := HA.out.num (k := i) (by rw [← HN.out]; exact hlt)
      have hcr := (hb.cell (p := ⟨b0, o0 + i, none⟩) hb0).trans hc0
      obtain ⟨y, hy⟩ : ∃ y, y = l[i]?.getD 0 := ⟨_, rfl⟩
      rw [← hy] at hcr
      have hnm := fun W => rnum_any y W
      obtain ⟨x, hx⟩ : ∃ x, x = Fld.num y := ⟨_, rfl⟩
      rw [← hx] at hnm
      have hxl : x = Fld.num (l[i]?.getD 0) := by rw [hx, hy]
      have HXL := Lib.hid hxl
      have HNM := Lib.hid hnm
      clear hy hx hxl hnm hc0
      obtain ⟨Ao, co, rfl, hpo, _⟩ := HG.out.pt
      have hnil := hpo.2.2.2
      have hnc := hpo.2.2.1
      have HPO := Lib.hid hpo
      obtain ⟨nl, hnl⟩ : ∃ nl, nl = L.length := ⟨_, rfl⟩
      have HNL := Lib.hid hnl
      rw [← hnl] at hLi hnc ⊢
      clear hpo hnl
      subst e0
      obtain ⟨wo, hwo⟩ : ∃ wo, wo = wr := ⟨_, rfl⟩
      rw [← hwo] at HG HPO hb hsz hcr ⊢
      clear hwo
      go_wp2_with fail
      refine (HNM.out _).mono ?_
      rintro e w' ⟨rfl, rfl⟩
      go_wp2
      go_loop [6] (fun k => ∃ t : Nat, k = .int .i64 (t : Int) ∧ t ≤ nl ∧ ∀ j, j < t → L[j]?.getD 0 < x) (fun k => nl - (intOf k).toNat)
      case atStart => exact ⟨0, rfl, Nat.zero_le _, fun j h => absurd h (Nat.not_lt_zero j)⟩
      case round =>
        obtain ⟨k, rfl, hk, hall⟩ := hrel
        have HALL := Lib.hid hall
        clear hall
        by_cases hkn : k < nl
        · obtain ⟨b1, o1, e1, hb1', hc1⟩ := HPO.out.2.1.num (k := k) (by rw [← HNL.out]; exact hkn)
          obtain ⟨v, hv⟩ : ∃ v, v = L[k]?.getD 0 := ⟨_, rfl⟩
          rw [← hv] at hc1
          have HV := Lib.hid hv
          clear hv
          subst e1
          have s1 : (0 : Int) ≤ (k : Int) := by omega
          have s2 : (k : Int) < (nl : Int) := by omega
          rcases Nat.lt_trichotomy v x with h1 | h1 | h1
          · have t1 : (v : Int) < (x : Int) := by omega
            go_wp2
            go_round
            case rel =>
              refine ⟨k + 1, by go_num, hkn, fun j hj => ?_⟩
              rcases Nat.lt_or_ge j k with h2 | h2
              · exact HALL.out j h2
              · obtain rfl : j = k := by omega
                rw [← HV.out]; exact h1
            case measure => simp [intOf]; omega
          · subst h1
            have hfd := HS.out.found (by rw [← HNL.out]; exact hkn) (HV.out.symm.trans HXL.out)
            have HFD := Lib.hid hfd
            clear hfd
            have t1 : ¬ v < v := Nat.lt_irrefl v
            have t2 : ((v : Int) == (v : Int)) = true := by simp
            go_wp2
            go_roundw
            case rel => exact ⟨i + 1, L, by go_num, hlt, by rw [HNL.out]; exact HG.out, by rw [← HNL.out]; omega, HFD.out, hb⟩
            case measure => simp [intOf]; omega
          · have t1 : ¬ v < x := by omega
            have t2 : ((v : Int) == (x : Int)) = false := by rw [beq_eq_false_iff_ne]; omega
            have hgt : k < L.length → x < L[k]?.getD 0 := fun _ => by rw [← HV.out]; exact h1
            have HGT := Lib.hid hgt
            clear hgt
            have hsl1 := slice_head 22 (by kernel_rfl) (fun W => by kernel_rfl) (some ⟨b1, o1, none⟩) nl co k (by omega)
            obtain ⟨At, ct, hsl2, htn, htr⟩ := slice_tail (some ⟨b1, o1, none⟩) nl co k (nl - k) hk rfl hnc hnil
            have hR2 := htr _ _ _ HNL.out HPO.out.2.1
            obtain ⟨q, hq⟩ : ∃ q, q = nl - k := ⟨_, rfl⟩
            rw [← hq] at hsl2 htn
            have HTN := Lib.hid htn
            have HR2 := Lib.hid hR2
            have HQ := Lib.hid hq
            have hnl0 := Gl.nil wo.heap.size wo
            have HNL0 := Lib.hid hnl0
            have hput := HS.out.put HXL.out (by rw [← HNL.out]; exact hk) HALL.out HGT.out
            have HPUT := Lib.hid hput
            clear htn htr hR2 hq hnl0 hput
            go_wp2_with (first
              | (at_builtin; refine wpList_app64 rfl _ _ rfl wo.heap.size [] (L.take k) _ (some ⟨b1, o1, none⟩) k co HNL0.out rfl rfl (by rw [List.length_take]; have := HNL.out; omega) (HPO.out.2.1.take k) (fun e => by have := hnil e; omega) (by simp; omega) (Nat.le_refl _) ?_; intro z1 w1 hz1 hb1; have HZ1 := Lib.hid hz1; clear hz1)
              | (at_builtin; refine wpList_push64 rfl _ _ rfl wo.heap.size x _ _ HZ1.out rfl rfl (by rw [List.nil_append, List.length_take]; omega) hb1.size ?_; intro z2 w2 hz2 hb2; have HZ2 := Lib.hid hz2; clear hz2)
              | (at_builtin; refine wpList_app64 rfl _ _ rfl wo.heap.size _ (L.drop k) _ At q ct HZ2.out rfl rfl (by rw [List.length_drop]; have := HNL.out; have := HQ.out; omega) (HR2.out.at_world (hb1.trans hb2)) HTN.out (by rw [List.nil_append, List.length_append, List.length_take, List.length_singleton]; have := HQ.out; omega) (hb1.trans hb2).size ?_; intro z3 w3 hz3 hb3; have HZ3 := Lib.hid hz3; clear hz3))
            go_roundw
            case rel =>
              refine ⟨i + 1, L.take k ++ [x] ++ L.drop k, by go_num, hlt, ?_, ?_, HPUT.out, ?_⟩
              · have h := HZ3.out.base hsz
                rwa [List.nil_append] at h
              · rw [List.length_append, List.length_append, List.length_take, List.length_drop, List.length_singleton]; have := HNL.out; omega
              · exact hb.trans (((hb1.trans hb2).trans hb3).mono hsz)
            case measure => simp [intOf]; omega
        · have hgt : k < L.length → x < L[k]?.getD 0 := fun h => by have := HNL.out; omega
          have HGT := Lib.hid hgt
          clear hgt
          have hsl1 := slice_head 22 (by kernel_rfl) (fun W => by kernel_rfl) Ao nl co k (by omega)
          obtain ⟨At, ct, hsl2, htn, htr⟩ := slice_tail Ao nl co k (nl - k) hk rfl hnc hnil
          have hR2 := htr _ _ _ HNL.out HPO.out.2.1
          obtain ⟨q, hq⟩ : ∃ q, q = nl - k := ⟨_, rfl⟩
          rw [← hq] at hsl2 htn
          have HTN := Lib.hid htn
          have HR2 := Lib.hid hR2
          have HQ := Lib.hid hq
          have hnl0 := Gl.nil wo.heap.size wo
          have HNL0 := Lib.hid hnl0
          have hput := HS.out.put HXL.out (by rw [← HNL.out]; exact hk) HALL.out HGT.out
          have HPUT := Lib.hid hput
          clear htn htr hR2 hq hnl0 hput
          go_wp2_with (first
            | (at_builtin; refine wpList_app64 rfl _ _ rfl wo.heap.size [] (L.take k) _ Ao k co HNL0.out rfl rfl (by rw [List.length_take]; have := HNL.out; omega) (HPO.out.2.1.take k) (fun e => by have := hnil e; omega) (by simp; omega) (Nat.le_refl _) ?_; intro z1 w1 hz1 hb1; have HZ1 := Lib.hid hz1; clear hz1)
            | (at_builtin; refine wpList_push64 rfl _ _ rfl wo.heap.size x _ _ HZ1.out rfl rfl (by rw [List.nil_append, List.length_take]; omega) hb1.size ?_; intro z2 w2 hz2 hb2; have HZ2 := Lib.hid hz2; clear hz2)
            | (at_builtin; refine wpList_app64 rfl _ _ rfl wo.heap.size _ (L.drop k) _ At q ct HZ2.out rfl rfl (by rw [List.length_drop]; have := HNL.out; have := HQ.out; omega) (HR2.out.at_world (hb1.trans hb2)) HTN.out (by rw [List.nil_append, List.length_append, List.length_take, List.length_singleton]; have := HQ.out; omega) (hb1.trans hb2).size ?_; intro z3 w3 hz3 hb3; have HZ3 := Lib.hid hz3; clear hz3))
          go_roundw
          case rel =>
            refine ⟨i + 1, L.take k ++ [x] ++ L.drop k, by go_num, hlt, ?_, ?_, HPUT.out, ?_⟩
            · have h := HZ3.out.base hsz
              rwa [List.nil_append] at h
            · rw [List.length_append, List.length_append, List.length_take, List.length_drop, List.length_singleton]; have := HNL.out; omega
            · exact hb.trans (((hb1.trans hb2).trans hb3).mono hsz)
          case measure => simp [intOf]; omega
    · obtain rfl : i = n := by omega
      go_wp2
      go_ret
      exact ⟨⟨_, L, rfl, HG.out, hLi, HS.out⟩, hb⟩
end Go.Proofs.Ytalljoneflepiaa
