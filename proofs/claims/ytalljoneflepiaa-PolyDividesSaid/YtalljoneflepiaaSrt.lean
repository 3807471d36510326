/-
  The library's sort of up to twelve numbers of 64 bits, in a block that is all known: the same numbers, none greater than the one behind it.
-/
import Derived.Test.YtalljoneflepiaaLng
import Derived.BigQuiet
namespace Go.Proofs.Ytalljoneflepiaa
open Go.RowKit

set_option maxRecDepth 100000 in
theorem less_any (x y : Nat) (w : World) : Calls Try.prog 81 #[.int .u64 (x : Int), .int .u64 (y : Int)] w fun e w' => e = .returned (.bool (decide (x < y))) ∧ w' = w := by
  have hnan : ∀ (z : Nat) (w : World), Calls Try.prog 91 #[.int .u64 (z : Int)] w fun e w' => e = .returned (.bool false) ∧ w' = w := by
    intro z w
    go_enter Try.func91, Try.ntmps91
    go_wp2
    go_ret
    exact ⟨by simp, rfl⟩
  go_enter Try.func81, Try.ntmps81
  go_wp2_with (go_at_call 91; refine (hnan _ _).mono ?_; rintro e w' ⟨rfl, rfl⟩)
  go_ret
  exact ⟨rfl, rfl⟩

/-- None is greater than the one behind it. -/
def Up (l : List Nat) : Prop := l.Pairwise (· ≤ ·)
theorem Up.snoc_split {A' : List Nat} {y : Nat} {B : List Nat} (h : Up (A' ++ [y] ++ B)) : Up (A' ++ (y :: B)) := by rwa [List.append_assoc, List.singleton_append] at h
theorem Up.place {A B : List Nat} {x : Nat} (h : Up (A ++ B)) (h1 : ∀ b ∈ B, x < b) (h2 : A = [] ∨ ∃ A' y, A = A' ++ [y] ∧ y ≤ x) : Up (A ++ x :: B) := by
  unfold Up at h ⊢
  rw [List.pairwise_append] at h ⊢
  refine ⟨h.1, List.pairwise_cons.2 ⟨fun b hb => Nat.le_of_lt (h1 b hb), h.2.1⟩, fun a ha b hb => ?_⟩
  rcases List.mem_cons.1 hb with rfl | hb
  · rcases h2 with rfl | ⟨A', y, rfl, hy⟩
    · cases ha
    · rcases List.mem_append.1 ha with h3 | h3
      · exact Nat.le_trans ((List.pairwise_append.1 h.1).2.2 a h3 y (List.mem_singleton.2 rfl)) hy
      · rw [List.mem_singleton.1 h3]; exact hy
  · exact h.2.2 a ha b hb

/-- A block that is known whole: numbers, and whatever lies behind them. -/
def Ax (w : World) (g : Nat) (L : List Nat) (D : List Value) : Prop := Blk w g 23 (u64s L ++ D).toArray
theorem Ax.cell {w : World} {g : Nat} {L : List Nat} {D : List Value} (h : Ax w g L D) {i : Nat} (hi : i < L.length) : w.cell? ⟨g, i, none⟩ = some (.int .u64 ((L[i]?.getD 0 : Nat) : Int)) := by
  rw [Blk.cell h, List.getElem?_toArray, List.getElem?_append_left (by rw [u64s_len]; exact hi)]; exact u64s_at hi
theorem Ax.frozen {w : World} {g : Nat} {L : List Nat} {D : List Value} (h : Ax w g L D) (i : Nat) : w.frozen? ⟨g, i, none⟩ = false := Blk.frozen h i
theorem Ax.set_ {w : World} {g : Nat} {L : List Nat} {D : List Value} (h : Ax w g L D) {i : Nat} (hi : i < L.length) (v : Nat) : Ax (w.setCell ⟨g, i, none⟩ (.int .u64 (v : Int))) g (L.set i v) D := by
  have h1 := Blk.set_ h i (.int .u64 (v : Int))
  unfold Ax
  rwa [List.setIfInBounds_toArray, List.set_append_left _ _ (by rw [u64s_len]; exact hi), show (u64s L).set i (.int .u64 (v : Int)) = u64s (L.set i v) by unfold u64s; rw [List.map_set]] at h1

theorem get_mid (A : List Nat) (x : Nat) (B : List Nat) : (A ++ x :: B)[A.length]?.getD 0 = x := by rw [List.getElem?_append_right (Nat.le_refl _), Nat.sub_self]; rfl
theorem set_mid (A : List Nat) (x z : Nat) (B : List Nat) : (A ++ x :: B).set A.length z = A ++ z :: B := by rw [List.set_append_right _ _ (Nat.le_refl _), Nat.sub_self]; rfl

set_option maxRecDepth 1000000 in
set_option maxHeartbeats 16000000 in
theorem insertion_any (g n c : Nat) (L0 : List Nat) (D : List Value) (w : World) (hg : Ax w g L0 D) (hn : n = L0.length) (hn0 : 0 < n) (hn9 : n ≤ 1000000) (hb : ∀ x ∈ L0, x < 18446744073709551616) :
    Calls Try.prog 75 #[.slice (some ⟨g, 0, none⟩) n c, .int .i64 0, .int .i64 (n : Int)] w fun e w' => (∃ r, e = .returned r) ∧ (∃ L', Ax w' g L' D ∧ List.Perm L' L0 ∧ Up L') ∧ w.grownBy w' (some g) := by
  have HG := Lib.hid hg
  have HN := Lib.hid hn
  have HB := Lib.hid hb
  clear hg hn hb
  go_enter Try.func75, Try.ntmps75
  go_wp2
  go_loopw [6] (fun vi wr => ∃ (i : Nat) (S C : List Nat), vi = .int .i64 (i : Int) ∧ 0 < i ∧ i ≤ n ∧ S.length = i ∧ Up S ∧ List.Perm (S ++ C) L0 ∧ Ax wr g (S ++ C) D ∧ w.grownBy wr (some g)) (fun vi _ => n - (intOf vi).toNat)
  case atStart =>
    obtain ⟨x, l, rfl⟩ : ∃ x l, L0 = x :: l := by
      cases L0 with
      | nil => have := HN.out; simp at this; omega
      | cons x l => exact ⟨x, l, rfl⟩
    exact ⟨1, [x], l, rfl, by omega, by omega, rfl, List.pairwise_singleton _ _, List.Perm.refl _, HG.out, only_refl _ _⟩
  case round =>
    obtain ⟨i, S, C, rfl, hi0, hin, hSl, hUp, hP, hA, hgr⟩ := hrel
    have K := Lib.hid (And.intro hSl (And.intro hUp (And.intro hP (And.intro hA hgr))))
    clear hSl hUp hP hA hgr
    by_cases hlt : i < n
    · have hltz : (i : Int) < (n : Int) := by omega
      obtain ⟨hSl, hUp, hP, hA, hgr⟩ := K.out
      obtain ⟨x0, C', rfl⟩ : ∃ x l, C = x :: l := by
        cases C with
        | nil => have h1 := hP.length_eq; have h2 := HN.out; rw [List.append_nil] at h1; omega
        | cons x l => exact ⟨x, l, rfl⟩
      clear hSl hUp hP hA hgr
      go_wp2
      go_loopw [7] (fun vj wr2 => ∃ (j : Nat) (A : List Nat) (x : Nat) (B : List Nat), vj = .int .i64 (j : Int) ∧ A.length = j ∧ j + B.length = i ∧ Up (A ++ B) ∧ (∀ b ∈ B, x < b) ∧ List.Perm (A ++ x :: B ++ C') L0 ∧ Ax wr2 g (A ++ x :: (B ++ C')) D ∧ w.grownBy wr2 (some g)) (fun vj _ => (intOf vj).toNat)
      case atStart =>
        obtain ⟨hSl, hUp, hP, hA, hgr⟩ := K.out
        refine ⟨i, S, x0, [], rfl, hSl, rfl, by rw [List.append_nil]; exact hUp, (fun b hb => by cases hb), ?_, ?_, hgr⟩
        · rw [List.append_assoc]; exact hP
        · exact hA
      case round =>
        obtain ⟨j, A, x, B, rfl, hAl, hjB, hUp, hlo, hP, hA, hgr⟩ := hrel
        have out : (A = [] ∨ ∃ A' y, A = A' ++ [y] ∧ y ≤ x) → ∀ q, ∃ (i2 : Nat) (S2 C2 : List Nat), Value.int .i64 ((i : Int) + 1) = .int .i64 (i2 : Int) ∧ 0 < i2 ∧ i2 ≤ n ∧ S2.length = i2 ∧ Up S2 ∧ List.Perm (S2 ++ C2) L0 ∧ Ax (wr.drewN q) g (S2 ++ C2) D ∧ w.grownBy (wr.drewN q) (some g) := fun h q =>
          ⟨i + 1, A ++ x :: B, C', rfl, by omega, by omega, by simp; omega, hUp.place hlo h, hP, by rw [List.append_assoc, List.cons_append]; exact hA, only_drewN hgr q⟩
        have OUT := Lib.hid out
        clear out
        have hcases : A = [] ∨ ∃ A' y, A = A' ++ [y] := by
          rcases List.eq_nil_or_concat A with h | ⟨A', y, h⟩
          · exact .inl h
          · exact .inr ⟨A', y, by rw [h, List.concat_eq_append]⟩
        rcases hcases with rfl | ⟨A', y, rfl⟩
        · obtain rfl : j = 0 := by simpa using hAl.symm
          clear hAl hjB hUp hlo hP hA hgr K
          go_wp2
          go_big_quiet (first | (go_at_call 81; refine Calls.quiet_of_same (less_any _ _ _)))
          go_wp2
          go_roundw
          case rel => exact OUT.out (.inl (by simp)) _
          case measure => simp [intOf]; omega
        · obtain ⟨k, hk⟩ : ∃ k, k = A'.length := ⟨_, rfl⟩
          have hj1 : (j : Int) - 1 = (k : Int) := by rw [hk]; simp at hAl; omega
          have hj0 : (0 : Int) < (j : Int) := by simp at hAl; omega
          have hj0n : 0 < j := by omega
          have hdj : decide (0 < j) = true := decide_eq_true hj0n
          have hjn : (j : Int) < (n : Int) := by omega
          have hk0 : (0 : Int) ≤ (k : Int) := by omega
          have hkn : (k : Int) < (n : Int) := by omega
          have hjk : j = k + 1 := by simp at hAl; omega
          have e1 : A' ++ [y] ++ x :: (B ++ C') = A' ++ y :: (x :: (B ++ C')) := by simp
          have hLL : (A' ++ [y] ++ x :: (B ++ C')).length = L0.length := by have := hP.length_eq; simp at this ⊢; omega
          have ck := hA.cell (i := k) (by simp; omega)
          have cj := hA.cell (i := j) (by simp; omega)
          rw [hAl.symm, get_mid] at cj
          rw [e1, hk, get_mid] at ck
          rw [hAl] at cj
          rw [← hk] at ck
          have fk := hA.frozen k
          have fj := hA.frozen j
          have hwk : IntKind.i64.wrap (k : Int) = (k : Int) := by rw [IntKind.wrap_i64]; omega
          have K2 := Lib.hid (And.intro hAl (And.intro hjB (And.intro hUp (And.intro hlo (And.intro hP (And.intro hA (And.intro hgr (And.intro hk hjk))))))))
          clear hAl hjB hUp hlo hP hA hgr K hk hjk e1 hLL
          by_cases hxy : x < y
          · have hdec : decide (x < y) = true := decide_eq_true hxy
            go_wp2
            go_big_quiet (first | (go_at_call 81; refine Calls.quiet_of_same (less_any _ _ _)))
            go_wp2
            obtain ⟨w3, hw3⟩ : ∃ w3, w3 = wr.drewN nq := ⟨_, rfl⟩
            have ck3 : w3.cell? ⟨g, k, none⟩ = some (.int .u64 (y : Int)) := hw3 ▸ ck
            have cj3 : w3.cell? ⟨g, j, none⟩ = some (.int .u64 (x : Int)) := hw3 ▸ cj
            have fk3 : w3.frozen? ⟨g, k, none⟩ = false := hw3 ▸ fk
            have fj3 : w3.frozen? ⟨g, j, none⟩ = false := hw3 ▸ fj
            rw [← hw3]
            have HW3 := Lib.hid hw3
            clear hw3 ck cj fk fj
            have hne1 : k ≠ j := by omega
            have hne2 : j ≠ k := by omega
            go_region
            all_goals go_wp2
            obtain ⟨hAl, hjB, hUp, hlo, hP, hA, hgr, hk, hjk⟩ := K2.out
            have hA3 : Ax w3 g (A' ++ [y] ++ x :: (B ++ C')) D := HW3.out ▸ hA
            have hA4 := (hA3.set_ (i := j) (by simp; omega) y).set_ (i := k) (by simp; omega) x
            rw [← hAl, set_mid, List.append_assoc, List.singleton_append, hk, set_mid] at hA4
            rw [hAl, ← hk] at hA4
            refine ⟨⟨k, A', x, y :: B, rfl, hk.symm, by rw [List.length_cons]; omega, hUp.snoc_split, ?_, ?_, hA4, ?_⟩, by simp [intOf]; omega⟩
            · intro b hb
              rcases List.mem_cons.1 hb with rfl | hb
              · exact hxy
              · exact hlo b hb
            · refine List.Perm.trans ?_ hP
              simp only [List.append_assoc, List.cons_append]
              exact List.Perm.append_left _ (List.Perm.swap y x _)
            · exact only_drew (only_set (only_set (HW3.out ▸ only_drewN hgr nq) _ _) _ _)
          · have hdec : decide (x < y) = false := decide_eq_false hxy
            have hyx : y ≤ x := by omega
            go_wp2
            go_big_quiet (first | (go_at_call 81; refine Calls.quiet_of_same (less_any _ _ _)))
            go_wp2
            go_roundw
            case rel => exact OUT.out (.inr ⟨A', y, by simp, hyx⟩) _
            case measure => simp [intOf]; omega
    · go_wp2
      go_end0
      obtain ⟨hSl, hUp, hP, hA, hgr⟩ := K.out
      have hC : C = [] := by
        have h1 := hP.length_eq
        have h2 := HN.out
        rw [List.length_append] at h1
        exact List.eq_nil_of_length_eq_zero (by omega)
      subst hC
      rw [List.append_nil] at hA hP
      exact ⟨⟨_, rfl⟩, ⟨S, hA, hP, hUp⟩, hgr⟩

set_option maxRecDepth 1000000 in
set_option maxHeartbeats 4000000 in
theorem pdq_any (g n c : Nat) (li : Int) (L0 : List Nat) (D : List Value) (w : World) (hg : Ax w g L0 D) (hn : n = L0.length) (hn0 : 0 < n) (hn9 : n ≤ 12) (hb : ∀ x ∈ L0, x < 18446744073709551616) :
    Calls Try.prog 71 #[.slice (some ⟨g, 0, none⟩) n c, .int .i64 0, .int .i64 (n : Int), .int .i64 li] w fun e w' => (∃ r, e = .returned r) ∧ (∃ L', Ax w' g L' D ∧ List.Perm L' L0 ∧ Up L') ∧ w.grownBy w' (some g) := by
  have h := insertion_any g n c L0 D w hg hn hn0 (by omega) hb
  have H := Lib.hid h
  clear h hg hn hb
  go_enter Try.func71, Try.ntmps71
  go_wp2
  go_loopw [1, 2, 3, 8, 9, 10, 11, 12, 13, 14, 15, 16, 17, 18] (fun a b _ _ _ _ _ _ _ _ _ _ _ _ wr => a = .int .i64 0 ∧ b = .int .i64 (n : Int) ∧ wr = w) (fun _ _ _ _ _ _ _ _ _ _ _ _ _ _ _ => 0)
  case atStart => exact ⟨rfl, rfl, rfl⟩
  case round =>
    obtain ⟨rfl, rfl, rfl⟩ := hrel
    have hn12 : (n : Int) ≤ 12 := by omega
    go_wp2_with fail
    refine H.out.mono ?_
    rintro e w2 ⟨⟨r, rfl⟩, h2, h3⟩
    have H2 := Lib.hid h2
    clear h2
    go_wp2
    refine bodyPost_ret (results_none rfl _ _ _) rfl ?_
    exact ⟨⟨_, rfl⟩, H2.out, h3⟩

set_option maxRecDepth 1000000 in
set_option maxHeartbeats 4000000 in
theorem bitlen_any (n : Nat) (hn : n ≤ 12) (w : World) : Calls Try.prog 72 #[.int .u64 (n : Int)] w fun e w' => (∃ li, e = .returned (.int .i64 li)) ∧ w = w' := by
  have hc : ∀ k : Int, (∃ m ∈ [0, 1, 2, 3, 4, 5, 6, 7, 8, 9, 10, 11, 12], k = m) → ∀ w, Calls Try.prog 70 #[.int .u64 k] w fun e w' => (∃ li, e = .returned (.int .i64 li)) ∧ w = w' := by
    intro k hk w
    simp only [List.mem_cons, List.not_mem_nil, or_false, exists_eq_or_imp, exists_eq_left] at hk
    rcases hk with rfl | rfl | rfl | rfl | rfl | rfl | rfl | rfl | rfl | rfl | rfl | rfl | rfl <;>
    · go_enter Try.func70, Try.ntmps70
      go_wp2
      go_ret
      exact ⟨⟨_, rfl⟩, rfl⟩
  go_enter Try.func72, Try.ntmps72
  go_wp2_with fail
  refine (hc _ ?_ _).mono ?_
  · simp only [List.mem_cons, List.not_mem_nil, or_false, exists_eq_or_imp, exists_eq_left]; omega
  · rintro e w' ⟨⟨li, rfl⟩, rfl⟩
    go_wp2
    go_ret
    exact ⟨⟨li, rfl⟩, rfl⟩

set_option maxRecDepth 1000000 in
set_option maxHeartbeats 4000000 in
theorem sort_any (g n c : Nat) (L0 : List Nat) (D : List Value) (w : World) (hg : Ax w g L0 D) (hn : n = L0.length) (hn0 : 0 < n) (hn9 : n ≤ 12) (hb : ∀ x ∈ L0, x < 18446744073709551616) :
    Calls Try.prog 64 #[.slice (some ⟨g, 0, none⟩) n c] w fun e w' => (∃ r, e = .returned r) ∧ (∃ L', Ax w' g L' D ∧ List.Perm L' L0 ∧ Up L') ∧ w.grownBy w' (some g) := by
  have h := fun li => pdq_any g n c li L0 D w hg hn hn0 hn9 hb
  have H := Lib.hid h
  clear h hg hn hb
  have hbl := bitlen_any n hn9 w
  have HBL := Lib.hid hbl
  clear hbl
  go_enter Try.func64, Try.ntmps64
  go_wp2_with fail
  refine HBL.out.mono ?_
  rintro e w2 ⟨⟨li, rfl⟩, rfl⟩
  go_wp2_with fail
  refine (H.out li).mono ?_
  rintro e w2 ⟨⟨r, rfl⟩, h2, h3⟩
  have H2 := Lib.hid h2
  clear h2
  go_wp2
  go_end0
  exact ⟨⟨_, rfl⟩, H2.out, h3⟩

set_option maxRecDepth 1000000 in
set_option maxHeartbeats 4000000 in
theorem sort_none (A : Option Addr) (c : Nat) (w : World) : Calls Try.prog 64 #[.slice A 0 c] w fun e w' => (∃ r, e = .returned r) ∧ Below w.heap.size w w' := by
  have hbl := bitlen_any 0 (by omega) w
  rw [Int.natCast_zero] at hbl
  have HBL := Lib.hid hbl
  clear hbl
  have hpd : ∀ li, Calls Try.prog 71 #[.slice A 0 c, .int .i64 0, .int .i64 0, .int .i64 li] w fun e w' => (∃ r, e = .returned r) ∧ w = w' := by
    intro li
    have hin : Calls Try.prog 75 #[.slice A 0 c, .int .i64 0, .int .i64 0] w fun e w' => (∃ r, e = .returned r) ∧ w = w' := by
      go_enter Try.func75, Try.ntmps75
      go_wp2
      go_loopw [6] (fun vi wr => vi = .int .i64 1 ∧ wr = w) (fun _ _ => 0)
      case atStart => exact ⟨rfl, rfl⟩
      case round =>
        obtain ⟨rfl, rfl⟩ := hrel
        go_wp2
        go_end0
        exact ⟨⟨_, rfl⟩, rfl⟩
    have HIN := Lib.hid hin
    clear hin
    go_enter Try.func71, Try.ntmps71
    go_wp2
    go_loopw [1, 2, 3, 8, 9, 10, 11, 12, 13, 14, 15, 16, 17, 18] (fun a b _ _ _ _ _ _ _ _ _ _ _ _ wr => a = .int .i64 0 ∧ b = .int .i64 0 ∧ wr = w) (fun _ _ _ _ _ _ _ _ _ _ _ _ _ _ _ => 0)
    case atStart => exact ⟨rfl, rfl, rfl⟩
    case round =>
      obtain ⟨rfl, rfl, rfl⟩ := hrel
      go_wp2_with fail
      refine HIN.out.mono ?_
      rintro e w2 ⟨⟨r, rfl⟩, rfl⟩
      go_wp2
      refine bodyPost_ret (results_none rfl _ _ _) rfl ?_
      exact ⟨⟨_, rfl⟩, rfl⟩
  have HPD := Lib.hid hpd
  clear hpd
  go_enter Try.func64, Try.ntmps64
  go_wp2_with fail
  refine HBL.out.mono ?_
  rintro e w2 ⟨⟨li, rfl⟩, rfl⟩
  go_wp2_with fail
  refine (HPD.out li).mono ?_
  rintro e w2 ⟨⟨r, rfl⟩, rfl⟩
  go_wp2
  go_end0
  exact ⟨⟨_, rfl⟩, Below.refl _ _⟩
end Go.Proofs.Ytalljoneflepiaa
