/-
  slices.Concat of up to three slices of numbers (the library's own text is walked), in memory of its own; package sketch's degrees. What was there is left as it was. Up to 100,000 numbers each, not all of them empty.
-/
import Derived.Test.YtcbcmnbfflaicaaSke
import Derived.Lib.AppendZerosOnto
import Derived.BigQuiet
namespace Go.Proofs.Ytcbcmnbfflaicaa
open Go.RowKit

set_option maxRecDepth 100000 in
set_option maxHeartbeats 2000000 in
theorem grow64_any (n : Nat) (w : World) (h0 : 0 < n) (hb : n ≤ 1099511627776) :
    Calls Try.prog 65 #[.slice none 0 0, .int .i64 (n : Int)] w fun e w' => ∃ cap, e = .returned (.slice (some ⟨w.heap.size, 0, none⟩) 0 cap) ∧ n ≤ cap ∧
      w'.ownsRow w.heap.size 22 1 (.slice (some ⟨w.heap.size, 0, none⟩) 0 cap) 0 [] ∧ Below w.heap.size w w' := by
  obtain ⟨i0, hi, hz0, hz1, hz2⟩ := info_parts info_u64
  have hg := grownCap_ge w (0 + n) 0 22
  have hgm := grownCap_le_maxLen w (0 + n) 0 22 (by unfold maxLen; omega)
  have hold : (Builtin.firstCells i0.size 0 (.slice none 0 0)).run Try.prog w.drew = .ok ([] : List Value).toArray w.drew := run_firstCells_none w.drew i0.size 0 0 0
  have hrz : ∀ ty, (Builtin.append_ #[25, 3] ty #[.slice none 0 0, .int .i64 (n : Int)]).run Try.prog w =
      .ok (.slice (some ⟨w.heap.size, 0, none⟩) (0 + n) (grownCap w (0 + n) 0 22)) (w.drew.alloc (.cells (([] : List Value).toArray ++ Builtin.zeroCells (Value.int .u64 0).cells n ++ Builtin.zeroCells (Value.int .u64 0).cells (grownCap w (0 + n) 0 22 - (0 + n))) 22)) := fun ty =>
    Lib.run_append_grow_zeros w 25 3 ty 22 i0 (.int .u64 0) .i64 .i64 Try.underlying25 Try.underlying3 hi hz0 none 0 0 [] hold n h0 (by rw [hz1]; decide) (by omega) (by omega) (by rw [hz2]; omega) (growslice_fits (by omega) (by rw [hz2]; omega))
  have hsz : (([] : List Value).toArray ++ Builtin.zeroCells (Value.int .u64 0).cells n ++ Builtin.zeroCells (Value.int .u64 0).cells (grownCap w (0 + n) 0 22 - (0 + n))).size = grownCap w (0 + n) 0 22 * 1 := by
    have h1 : (Value.int IntKind.u64 0).cells.size = 1 := rfl
    rw [Array.size_append, Array.size_append, size_zeroCells, size_zeroCells, h1]
    have h2 : ([] : List Value).toArray.size = 0 := rfl
    rw [h2]
    omega
  have e0 : (0 + n) = n := Nat.zero_add n
  rw [e0] at hrz hg hgm hsz
  obtain ⟨G, hG⟩ : ∃ G, G = grownCap w n 0 22 := ⟨_, rfl⟩
  rw [← hG] at hrz hg hgm hsz
  obtain ⟨cs, hcs⟩ : ∃ cs, cs = (([] : List Value).toArray ++ Builtin.zeroCells (Value.int .u64 0).cells n ++ Builtin.zeroCells (Value.int .u64 0).cells (G - n)) := ⟨_, rfl⟩
  rw [← hcs] at hrz hsz
  have h1 : ¬ ((n : Int) < 0) := by omega
  have h3 : wrap64 (n : Int) = n := by unfold wrap64; omega
  have h4 : (n : Int) > 0 := by omega
  have hG63 : G ≤ 9223372036854775807 := by unfold maxLen at hgm; omega
  have HR := Lib.hid hrz
  have HSZ := Lib.hid hsz
  have HGM := Lib.hid hgm
  have HG := Lib.hid hg
  clear hrz hsz hgm hold hcs hG hi hz0 hz1 hz2 hg e0
  go_enter Try.func65, Try.ntmps65
  go_wp2_with (at_builtin; refine Lib.wpList_append_run _ rfl _ _ _ _ rfl _ _ rfl rfl _ _ (HR.out _) ?_)
  go_ret
  refine ⟨G, rfl, by have := HG.out; omega, ?_, ?_⟩
  · exact World.ownsRow_made w.drew cs G (Nat.le_refl _) HGM.out HSZ.out
  · exact below_of_drew ((Below.refl _ w.drew).alloc (Nat.le_refl _) _)

/-- How many numbers so many lists have together; and all of them, one behind the other. -/
def tot (ns : Nat → Nat) : Nat → Nat
  | 0 => 0
  | k + 1 => tot ns k + ns k
def acc (ls : Nat → List Nat) : Nat → List Nat
  | 0 => []
  | k + 1 => acc ls k ++ ls k
theorem acc_len {ns : Nat → Nat} {ls : Nat → List Nat} : ∀ k, (∀ i, i < k → ns i = (ls i).length) → (acc ls k).length = tot ns k
  | 0, _ => rfl
  | k + 1, h => by show (acc ls k ++ ls k).length = tot ns k + ns k; rw [List.length_append, acc_len k (fun i hi => h i (by omega)), h k (by omega)]
theorem tot_le {ns : Nat → Nat} {b : Nat} : ∀ k, (∀ i, i < k → ns i ≤ b) → tot ns k ≤ k * b
  | 0, _ => by simp [tot]
  | k + 1, h => by show tot ns k + ns k ≤ _; have := tot_le k (fun i hi => h i (by omega)); have := h k (by omega); rw [Nat.succ_mul]; omega

set_option maxRecDepth 100000 in
set_option maxHeartbeats 4000000 in
theorem concat_any (N S c : Nat) (As : Nat → Option Addr) (ns cs : Nat → Nat) (ls : Nat → List Nat) (w : World) (hN : N ≤ 3) (hS : ∀ i, i < N → w.cell? ⟨S, i, none⟩ = some (.slice (As i) (ns i) (cs i))) (hp : ∀ i, i < N → Pt w (As i) (ns i) (cs i) (ls i))
    (hb : ∀ i, i < N → ns i ≤ 100000) (h0 : 0 < tot ns N) :
    Calls Try.prog 49 #[.slice (some ⟨S, 0, none⟩) N c] w fun e w' => (∃ z, e = .returned z ∧ Gl w.heap.size w' z (acc ls N)) ∧ Below w.heap.size w w' := by
  have hSl : ∀ i, i < N → S < w.heap.size := fun i hi => World.block_lt_of_cell? w _ (hS i hi)
  have HS := Lib.hid hS
  have HP := Lib.hid hp
  have HB := Lib.hid hb
  have HSL := Lib.hid hSl
  have hbel : Below w.heap.size w w := Below.refl _ _
  clear hS hp hb hSl
  go_enter Try.func49, Try.ntmps49
  go_wp2
  go_loopw [3, 11] (fun v i wr => ∃ k s : Nat, k ≤ N ∧ s = tot ns k ∧ v = .int .i64 (s : Int) ∧ i = .int .i64 (k : Int) ∧ Below w.heap.size w wr) (fun _ i _ => N - (intOf i).toNat)
  case atStart => exact ⟨0, 0, by omega, rfl, rfl, rfl, hbel⟩
  case round =>
    obtain ⟨k, s, hk, hs, rfl, rfl, hbr⟩ := hrel
    have hsb : s ≤ 300000 := by
      rw [hs]
      have h := tot_le k (fun i hi => HB.out i (by omega))
      have : k * 100000 ≤ 3 * 100000 := Nat.mul_le_mul_right _ (by omega)
      omega
    have HSS := Lib.hid hs
    clear hs
    by_cases hlt : k < N
    · have hc := (hbr.cell (p := ⟨S, k, none⟩) (HSL.out k hlt)).trans (HS.out k hlt)
      have hnb := HB.out k hlt
      have hnx : tot ns (k + 1) = tot ns k + ns k := rfl
      rw [← HSS.out] at hnx
      obtain ⟨m, hm⟩ : ∃ m, m = ns k := ⟨_, rfl⟩
      rw [← hm] at hc hnb hnx
      obtain ⟨t, ht⟩ : ∃ t, t = s + m := ⟨_, rfl⟩
      have hti : (s : Int) + (m : Int) = (t : Int) := by omega
      have htb : t ≤ 400000 := by omega
      rw [← ht] at hnx
      have HNX := Lib.hid hnx
      have q0 : (0 : Int) ≤ (k : Int) := by omega
      have q1 : (k : Int) < (N : Int) := by omega
      clear hnx ht hm
      go_wp2
      go_roundw
      case rel => exact ⟨k + 1, t, hlt, HNX.out.symm, by go_num, by go_num, hbr⟩
      case measure => simp [intOf]; omega
    · have e : k = N := by omega
      subst e
      have ht0 : 0 < s := by rw [HSS.out]; exact h0
      clear h0
      go_wp2_with fail
      refine (grow64_any s wr ht0 (by omega)).mono ?_
      rintro e w1 ⟨cap, rfl, hcap, hown, hb1⟩
      have hk1 := hbel.trans (hbr.trans (hb1.mono hbr.size))
      have hg1 : Gl w.heap.size w1 (.slice (some ⟨wr.heap.size, 0, none⟩) 0 cap) [] := Gl.base ⟨_, cap, rfl, hown⟩ hbr.size
      obtain ⟨u0, hu0⟩ : ∃ u0, u0 = Value.slice (some ⟨wr.heap.size, 0, none⟩) 0 cap := ⟨_, rfl⟩
      rw [← hu0] at hg1 ⊢
      have HW := Lib.hid hg1
      have HK1 := Lib.hid hk1
      clear hown hg1 hb1 hbr hu0 hk1
      go_wp2
      go_loopw [6, 27] (fun v i w2 => ∃ i' : Nat, i' ≤ k ∧ i = .int .i64 (i' : Int) ∧ Gl w.heap.size w2 v (acc ls i') ∧ Below w.heap.size w w2) (fun _ i _ => k - (intOf i).toNat)
      case atStart => exact ⟨0, by omega, rfl, HW.out, HK1.out⟩
      case round =>
        rename World => w2
        obtain ⟨i, hi, rfl, hg2, hb2⟩ := hrel
        have hsz2 := hb2.size
        have HR := Lib.hid hg2
        clear hg2
        by_cases hlt : i < k
        · have hc := (hb2.cell (p := ⟨S, i, none⟩) (HSL.out i hlt)).trans (HS.out i hlt)
          have HPI := Lib.hid ((HP.out i hlt).below hb2)
          have hlen := acc_len (ns := ns) (ls := ls) i (fun a ha => (HP.out a (by omega)).1)
          have htb : tot ns i ≤ 300000 := by
            have h := tot_le i (fun a ha => HB.out a (by omega))
            have : i * 100000 ≤ 3 * 100000 := Nat.mul_le_mul_right _ (by omega)
            omega
          have hlb : Hid ((acc ls i).length ≤ 300000) := Lib.hid (by omega)
          have hnb := HB.out i hlt
          have q0 : (0 : Int) ≤ (i : Int) := by omega
          have q1 : (i : Int) < (k : Int) := by omega
          have hnx : acc ls (i + 1) = acc ls i ++ ls i := rfl
          have HNX := Lib.hid hnx
          obtain ⟨m, hm⟩ : ∃ m, m = ns i := ⟨_, rfl⟩
          rw [← hm] at hc hnb HPI
          have HNB := Lib.hid hnb
          clear hnx hlen htb hm hnb
          go_wp2_with (at_builtin; refine wpList_app64 rfl _ _ rfl w.heap.size (acc ls i) (ls i) _ (As i) m (cs i) HR.out rfl rfl HPI.out.1 HPI.out.2.1 (fun e => ⟨HPI.out.2.2.2 e, by have h1 := HPI.out.2.2.1; have h2 := HPI.out.2.2.2 e; omega⟩) (by have h1 := hlb.out; have h2 := HNB.out; have h3 := HPI.out.1; omega) hsz2 ?_; intro z w3 hg3 hb3; have HO3 := Lib.hid hg3; clear hg3)
          go_roundw
          case rel => exact ⟨i + 1, hlt, by go_num, HO3.out, hb2.trans hb3⟩
          case measure => simp [intOf]; omega
        · have e : i = k := by omega
          subst e
          go_wp2
          go_ret
          exact ⟨⟨_, rfl, HR.out⟩, hb2⟩

theorem concat3_any (S n0 n1 n2 c0 c1 c2 : Nat) (A0 A1 A2 : Option Addr) (l0 l1 l2 : List Nat) (w : World) (hS : Blk w S 25 #[.slice A0 n0 c0, .slice A1 n1 c1, .slice A2 n2 c2]) (h0 : Pt w A0 n0 c0 l0) (h1 : Pt w A1 n1 c1 l1) (h2 : Pt w A2 n2 c2 l2)
    (b0 : n0 ≤ 100000) (b1 : n1 ≤ 100000) (b2 : n2 ≤ 100000) (hp : 0 < n0 + n1 + n2) :
    Calls Try.prog 49 #[.slice (some ⟨S, 0, none⟩) 3 3] w fun e w' => (∃ z, e = .returned z ∧ Gl w.heap.size w' z (l0 ++ l1 ++ l2)) ∧ Below w.heap.size w w' := by
  have h := concat_any 3 S 3 (fun i => match i with | 0 => A0 | 1 => A1 | _ => A2) (fun i => match i with | 0 => n0 | 1 => n1 | _ => n2) (fun i => match i with | 0 => c0 | 1 => c1 | _ => c2) (fun i => match i with | 0 => l0 | 1 => l1 | _ => l2) w (Nat.le_refl _)
    (fun i hi => by
      match i, hi with
      | 0, _ => exact hS.cell 0
      | 1, _ => exact hS.cell 1
      | 2, _ => exact hS.cell 2)
    (fun i hi => by
      match i, hi with
      | 0, _ => exact h0
      | 1, _ => exact h1
      | 2, _ => exact h2)
    (fun i hi => by
      match i, hi with
      | 0, _ => exact b0
      | 1, _ => exact b1
      | 2, _ => exact b2)
    (by show 0 < 0 + n0 + n1 + n2; omega)
  exact h
theorem concat2_any (S n0 n1 c0 c1 : Nat) (A0 A1 : Option Addr) (l0 l1 : List Nat) (w : World) (hS : Blk w S 25 #[.slice A0 n0 c0, .slice A1 n1 c1]) (h0 : Pt w A0 n0 c0 l0) (h1 : Pt w A1 n1 c1 l1)
    (b0 : n0 ≤ 100000) (b1 : n1 ≤ 100000) (hp : 0 < n0 + n1) :
    Calls Try.prog 49 #[.slice (some ⟨S, 0, none⟩) 2 2] w fun e w' => (∃ z, e = .returned z ∧ Gl w.heap.size w' z (l0 ++ l1)) ∧ Below w.heap.size w w' := by
  have h := concat_any 2 S 2 (fun i => match i with | 0 => A0 | _ => A1) (fun i => match i with | 0 => n0 | _ => n1) (fun i => match i with | 0 => c0 | _ => c1) (fun i => match i with | 0 => l0 | _ => l1) w (by omega)
    (fun i hi => by
      match i, hi with
      | 0, _ => exact hS.cell 0
      | 1, _ => exact hS.cell 1)
    (fun i hi => by
      match i, hi with
      | 0, _ => exact h0
      | 1, _ => exact h1)
    (fun i hi => by
      match i, hi with
      | 0, _ => exact b0
      | 1, _ => exact b1)
    (by show 0 < 0 + n0 + n1; omega)
  exact h

/-- A list of its own that is not empty has a block. -/
theorem Gl.ax {B : Nat} {w : World} {z : Value} {L : List Nat} (h : Gl B w z L) (h0 : 0 < L.length) : ∃ g c D, z = .slice (some ⟨g, 0, none⟩) L.length c ∧ B ≤ g ∧ L.length ≤ c ∧ Ax w g L D := by
  obtain ⟨A, c, rfl, h3, h4⟩ := h
  rcases h4 with ⟨_, e2⟩ | ⟨g, cap, cur, e2, g1, g2, g3, g4, g5, g6⟩
  · omega
  · injection e2 with e2 e3 e4
    subst e2 e4
    refine ⟨g, c, cur.toList.drop (L.length * 1), rfl, g1, by omega, ?_⟩
    unfold Ax Blk
    rw [← g6, List.take_append_drop]
    exact g2

/-- A sketch's value. -/
def skv (n : Nat) (A : Option Addr) (l c : Nat) : Value := .agg #[.int .i64 (n : Int), .slice A l c]

set_option maxRecDepth 100000 in
set_option maxHeartbeats 2000000 in
theorem degrees_no (na nb n c n' c' : Nat) (A A' : Option Addr) (w : World) (h1 : na ≤ 1000000) (h2 : nb ≤ 1000000) (hn : n ≤ 1000000) (hc : n + nb < na + 2 ∨ n + na < nb + 2) :
    Calls Try.prog 46 #[skv na A n c, skv nb A' n' c'] w fun e w' => e = .returned (.tuple #[.int .i64 0, .int .i64 0, .bool false]) ∧ Below w.heap.size w w' := by
  unfold skv
  have hk1 := (blk_new w 29 #[.int .i64 (na : Int), .slice A n c])
  have hk2 := (blk_new (w.alloc (.cells #[.int .i64 (na : Int), .slice A n c] 29)) 29 #[.int .i64 (nb : Int), .slice A' n' c'])
  rw [World.size_alloc] at hk2
  have hk3 := blk_alloc hk1 (.cells #[.int .i64 (nb : Int), .slice A' n' c'] 29)
  have hb0 : Below w.heap.size w ((w.alloc (.cells #[.int .i64 (na : Int), .slice A n c] 29)).alloc (.cells #[.int .i64 (nb : Int), .slice A' n' c'] 29)) := ((Below.refl _ w).alloc (Nat.le_refl _) _).alloc (by simp) _
  have c0 : ((w.alloc (.cells #[.int .i64 (na : Int), .slice A n c] 29)).alloc (.cells #[.int .i64 (nb : Int), .slice A' n' c'] 29)).cell? ⟨w.heap.size, 0, none⟩ = some (.int .i64 (na : Int)) := hk3.cell 0
  have c1 : ((w.alloc (.cells #[.int .i64 (na : Int), .slice A n c] 29)).alloc (.cells #[.int .i64 (nb : Int), .slice A' n' c'] 29)).cell? ⟨w.heap.size, 1, none⟩ = some (.slice A n c) := hk3.cell 1
  have c2 : ((w.alloc (.cells #[.int .i64 (na : Int), .slice A n c] 29)).alloc (.cells #[.int .i64 (nb : Int), .slice A' n' c'] 29)).cell? ⟨w.heap.size + 1, 0, none⟩ = some (.int .i64 (nb : Int)) := hk2.cell 0
  have HB0 := Lib.hid hb0
  clear hk1 hk2 hk3 hb0
  by_cases hc1 : n + nb < na + 2
  · have q1 : (n : Int) - 2 < (na : Int) - (nb : Int) := by omega
    clear hc hc1
    go_enter Try.func46, Try.ntmps46
    go_wp2
    go_big_quiet (fail)
    go_wp2
    refine bodyPost_ret (results_tmp3 rfl _ _ _) rfl ?_
    exact ⟨rfl, below_drewN HB0.out _⟩
  · have q1 : ¬ ((n : Int) - 2 < (na : Int) - (nb : Int)) := by omega
    have q2 : (na : Int) - (nb : Int) < -((n : Int) - 2) := by omega
    clear hc hc1
    go_enter Try.func46, Try.ntmps46
    go_wp2
    go_big_quiet (fail)
    go_wp2
    refine bodyPost_ret (results_tmp3 rfl _ _ _) rfl ?_
    exact ⟨rfl, below_drewN HB0.out _⟩

set_option maxRecDepth 100000 in
set_option maxHeartbeats 2000000 in
theorem degrees_yes (na nb n c n' c' dF dG : Nat) (A A' : Option Addr) (w : World) (h1 : na ≤ 1000000) (h2 : nb ≤ 1000000) (hn : n ≤ 1000000) (hd : dF + nb = dG + na) (hd2 : dF + dG + 2 ≤ n) (hd3 : n ≤ dF + dG + 3) :
    Calls Try.prog 46 #[skv na A n c, skv nb A' n' c'] w fun e w' => e = .returned (.tuple #[.int .i64 (dF : Int), .int .i64 (dG : Int), .bool true]) ∧ Below w.heap.size w w' := by
  unfold skv
  have hk1 := (blk_new w 29 #[.int .i64 (na : Int), .slice A n c])
  have hk2 := (blk_new (w.alloc (.cells #[.int .i64 (na : Int), .slice A n c] 29)) 29 #[.int .i64 (nb : Int), .slice A' n' c'])
  rw [World.size_alloc] at hk2
  have hk3 := blk_alloc hk1 (.cells #[.int .i64 (nb : Int), .slice A' n' c'] 29)
  have hb0 : Below w.heap.size w ((w.alloc (.cells #[.int .i64 (na : Int), .slice A n c] 29)).alloc (.cells #[.int .i64 (nb : Int), .slice A' n' c'] 29)) := ((Below.refl _ w).alloc (Nat.le_refl _) _).alloc (by simp) _
  have c0 : ((w.alloc (.cells #[.int .i64 (na : Int), .slice A n c] 29)).alloc (.cells #[.int .i64 (nb : Int), .slice A' n' c'] 29)).cell? ⟨w.heap.size, 0, none⟩ = some (.int .i64 (na : Int)) := hk3.cell 0
  have c1 : ((w.alloc (.cells #[.int .i64 (na : Int), .slice A n c] 29)).alloc (.cells #[.int .i64 (nb : Int), .slice A' n' c'] 29)).cell? ⟨w.heap.size, 1, none⟩ = some (.slice A n c) := hk3.cell 1
  have c2 : ((w.alloc (.cells #[.int .i64 (na : Int), .slice A n c] 29)).alloc (.cells #[.int .i64 (nb : Int), .slice A' n' c'] 29)).cell? ⟨w.heap.size + 1, 0, none⟩ = some (.int .i64 (nb : Int)) := hk2.cell 0
  have HB0 := Lib.hid hb0
  clear hk1 hk2 hk3 hb0
  have q1 : ¬ ((n : Int) - 2 < (na : Int) - (nb : Int)) := by omega
  have q2 : ¬ ((na : Int) - (nb : Int) < -((n : Int) - 2)) := by omega
  have q3 : ((n : Int) - 2 + ((na : Int) - (nb : Int))).tdiv 2 = (dF : Int) := by
    rw [Int.tdiv_eq_ediv_of_nonneg (by omega)]; omega
  have q4 : (dF : Int) - ((na : Int) - (nb : Int)) = (dG : Int) := by omega
  have HD := Lib.hid hd
  have HD2 := Lib.hid hd2
  have HD3 := Lib.hid hd3
  clear hd hd3
  go_enter Try.func46, Try.ntmps46
  go_wp2
  go_big_quiet (fail)
  go_wp2
  refine bodyPost_ret (results_tmp3 rfl _ _ _) rfl ?_
  exact ⟨by first | rfl | (simp only [q3, q4]), below_drewN HB0.out _⟩
end Go.Proofs.Ytcbcmnbfflaicaa
