/-
  Package draw's Next, Below and Used: what they tell of draws, and that nothing turns but how many were drawn. For every seed, and up to a million said.
-/
import Derived.Test.YtmmigancjggpgaaNew
namespace Go.Proofs.Ytmmigancjggpgaa
open Go.RowKit

theorem dsecret_any (x : Nat) (w : World) (hx : x < 18446744073709551616) : Calls Try.prog 21 #[.int .u64 x] w fun e w' => e = .returned (.int .u64 ((1 + x % 2305843009213693949 : Nat) : Int)) ∧ w = w' := by
  obtain ⟨z, hz⟩ : ∃ z : Nat, z = x % 2305843009213693949 := ⟨_, rfl⟩
  have hz1 : (x : Int) % 2305843009213693949 = (z : Int) := by omega
  have hz2 : z < 2305843009213693949 := by omega
  rw [← hz]
  have HZ := Lib.hid hz
  clear hz
  go_enter Try.func21, Try.ntmps21
  go_wp2
  go_ret
  exact ⟨ret_u64 (by omega), rfl⟩

theorem secret_two (z j : Nat) (w0 w1 : World) (h : w1.heap.size = w0.heap.size) (hz : z < 18446744073709551616) (hj : j < 18446744073709551616) :
    Calls Try.prog 22 #[.string ⟨#[100, 114, 97, 119]⟩, .slice (some ⟨w0.heap.size, 0, none⟩) 2 2] (w1.alloc (.cells #[.int .u64 (z : Int), .int .u64 (j : Int)] 22)) fun e w' => e = .returned (.int .u64 (Hsh.secret Dw.label [z, j] : Nat)) ∧
      Below (w1.alloc (.cells #[.int .u64 (z : Int), .int .u64 (j : Int)] 22)).heap.size (w1.alloc (.cells #[.int .u64 (z : Int), .int .u64 (j : Int)] 22)) w' := by
  rw [← h]
  exact secret_any ⟨#[100, 114, 97, 119]⟩ (some ⟨w1.heap.size, 0, none⟩) 2 2 [z, j] (w1.alloc (.cells #[.int .u64 (z : Int), .int .u64 (j : Int)] 22)) (by decide) rfl (by omega)
    (by intro y hy
        rcases List.mem_cons.1 hy with rfl | hy
        · omega
        · rcases List.mem_cons.1 hy with rfl | hy
          · omega
          · cases hy)
    (fun _ => ⟨w1.heap.size, 0, rfl, by simp, fun i u hu => by
      rw [Nat.zero_add, (blk_new w1 22 #[.int .u64 (z : Int), .int .u64 (j : Int)]).cell i]
      simpa [u64s] using hu⟩)

set_option maxRecDepth 100000 in
set_option maxHeartbeats 1000000 in
/-- The closure: the next one is one that is said. -/
theorem clo_said (lo U K S seed n c : Nat) (A : Option Addr) (l : List Nat) (w : World) (hl : l.length ≤ 1000000) (hn : n < l.length) (hx : ∀ x ∈ l, x < 18446744073709551616)
    (hU : Blk w U 3 #[.int .i64 n]) (hK : Blk w K 23 #[.slice A l.length c]) (hA : Kp lo w A l) :
    Calls Try.prog 20 #[.pointer (some ⟨U, 0, none⟩), .pointer (some ⟨K, 0, none⟩), .pointer (some ⟨S, 0, none⟩)] w fun e w' =>
      e = .returned (.int .u64 (Dw.nth seed l (n + 1) : Nat)) ∧ Blk w' U 3 #[.int .i64 ((n + 1 : Nat) : Int)] ∧ w.grownBy w' (some U) := by
  rw [Dw.nth_said _ _ _ hn]
  obtain ⟨m, hm⟩ : ∃ m, m = n + 1 := ⟨_, rfl⟩
  rw [← hm]
  obtain ⟨b, off, rfl, h1, h2, hc⟩ := hA (by omega)
  have hx1 := hx _ (List.getElem_mem hn)
  have hcx := hc n (.int .u64 (l[n] : Nat)) (by simp [u64s, hn])
  obtain ⟨x, hxe⟩ : ∃ x : Nat, x = l[n] := ⟨_, rfl⟩
  rw [← hxe] at hx1 hcx ⊢
  have c0 : w.cell? ⟨U, 0, none⟩ = some (.int .i64 n) := hU.cell 0
  have f0 : w.frozen? ⟨U, 0, none⟩ = false := hU.frozen 0
  have hg : w.grownBy (w.setCell ⟨U, 0, none⟩ (.int .i64 (m : Int))) (some U) := only_set (only_refl _ _) 0 _
  have hbU : some b ≠ some U := fun e => by
    injection e with e
    subst e
    rw [hU.cell] at hcx
    rcases hoi : off + n with _ | j
    · rw [hoi] at hcx; simp at hcx
    · rw [hoi] at hcx; simp at hcx
  have hKU : some K ≠ some U := fun e => by
    injection e with e
    subst e
    exact absurd (blk_type hU hK) (by decide)
  have hU1 : Blk (w.setCell ⟨U, 0, none⟩ (.int .i64 (m : Int))) U 3 #[.int .i64 (m : Int)] := hU.set_ 0 (.int .i64 (m : Int))
  have hK1 := blk_grown hK hg hKU
  have hcx1 : (w.setCell ⟨U, 0, none⟩ (.int .i64 (m : Int))).cell? ⟨b, off + n, none⟩ = some (.int .u64 x) := hg.cell hcx hbU
  have c1 : (w.setCell ⟨U, 0, none⟩ (.int .i64 (m : Int))).cell? ⟨U, 0, none⟩ = some (.int .i64 (m : Int)) := hU1.cell 0
  have k1 : (w.setCell ⟨U, 0, none⟩ (.int .i64 (m : Int))).cell? ⟨K, 0, none⟩ = some (.slice (some ⟨b, off, none⟩) l.length c) := hK1.cell 0
  have hmi : (n : Int) + 1 = (m : Int) := by omega
  have hmi2 : (m : Int) - 1 = (n : Int) := by omega
  obtain ⟨len, hlen⟩ : ∃ len, len = l.length := ⟨_, rfl⟩
  rw [← hlen] at k1 hn hl
  have hle : (m : Int) ≤ (len : Int) := by omega
  have q0 : (0 : Int) ≤ (n : Int) := by omega
  have q1 : (n : Int) < (len : Int) := by omega
  have HU1 := Lib.hid hU1
  have HG := Lib.hid hg
  clear hU1 hK1 hg hm hxe hc hA hcx hU hK hx hlen hbU hKU h1 h2
  go_enter Try.func20, Try.ntmps20
  go_wp2_with (first | (go_at_call 21; refine (dsecret_any x _ hx1).mono ?_; rintro e w' ⟨rfl, rfl⟩))
  go_ret
  exact ⟨rfl, HU1.out, HG.out⟩

set_option maxRecDepth 100000 in
set_option maxHeartbeats 1000000 in
/-- The closure: the next one comes behind what is said. -/
theorem clo_seed (U K S seed n c : Nat) (A : Option Addr) (l : List Nat) (w : World) (hl : l.length ≤ 1000000) (hn : l.length ≤ n) (hnb : n ≤ 1000000000) (hs : seed < 18446744073709551616)
    (hU : Blk w U 3 #[.int .i64 n]) (hK : Blk w K 23 #[.slice A l.length c]) (hS : Blk w S 22 #[.int .u64 seed]) :
    Calls Try.prog 20 #[.pointer (some ⟨U, 0, none⟩), .pointer (some ⟨K, 0, none⟩), .pointer (some ⟨S, 0, none⟩)] w fun e w' =>
      e = .returned (.int .u64 (Dw.nth seed l (n + 1) : Nat)) ∧ Blk w' U 3 #[.int .i64 ((n + 1 : Nat) : Int)] ∧ w.grownBy w' (some U) := by
  rw [Dw.nth_behind _ _ _ (by omega)]
  obtain ⟨m, hm⟩ : ∃ m, m = n + 1 := ⟨_, rfl⟩
  rw [← hm]
  have c0 : w.cell? ⟨U, 0, none⟩ = some (.int .i64 n) := hU.cell 0
  have f0 : w.frozen? ⟨U, 0, none⟩ = false := hU.frozen 0
  have hg : w.grownBy (w.setCell ⟨U, 0, none⟩ (.int .i64 (m : Int))) (some U) := only_set (only_refl _ _) 0 _
  have hKU : some K ≠ some U := fun e => by
    injection e with e
    subst e
    exact absurd (blk_type hU hK) (by decide)
  have hSU : some S ≠ some U := fun e => by
    injection e with e
    subst e
    exact absurd (blk_type hU hS) (by decide)
  have hU1 : Blk (w.setCell ⟨U, 0, none⟩ (.int .i64 (m : Int))) U 3 #[.int .i64 (m : Int)] := hU.set_ 0 (.int .i64 (m : Int))
  have hK1 := blk_grown hK hg hKU
  have hS1 := blk_grown hS hg hSU
  have c1 : (w.setCell ⟨U, 0, none⟩ (.int .i64 (m : Int))).cell? ⟨U, 0, none⟩ = some (.int .i64 (m : Int)) := hU1.cell 0
  have k1 : (w.setCell ⟨U, 0, none⟩ (.int .i64 (m : Int))).cell? ⟨K, 0, none⟩ = some (.slice A l.length c) := hK1.cell 0
  have s1 : (w.setCell ⟨U, 0, none⟩ (.int .i64 (m : Int))).cell? ⟨S, 0, none⟩ = some (.int .u64 seed) := hS1.cell 0
  have hmi : (n : Int) + 1 = (m : Int) := by omega
  obtain ⟨len, hlen⟩ : ∃ len, len = l.length := ⟨_, rfl⟩
  rw [← hlen] at k1 hn hl ⊢
  obtain ⟨j, hj⟩ : ∃ j, j = m - len := ⟨_, rfl⟩
  obtain ⟨z, hz⟩ : ∃ z, z = seed % 2305843009213693951 := ⟨_, rfl⟩
  have hz1 : (seed : Int) % 2305843009213693951 = (z : Int) := by omega
  have hz2 : z < 2305843009213693951 := by omega
  have hj1 : (m : Int) - (len : Int) = (j : Int) := by omega
  have hj2 : j ≤ 1000000001 := by omega
  have hle : ¬ (m : Int) ≤ (len : Int) := by omega
  rw [← hj, ← hz]
  have hsz : (w.setCell ⟨U, 0, none⟩ (.int .i64 (m : Int))).heap.size = w.heap.size := by simp [World.setCell]
  have hUw := hU.lt
  have HU1 := Lib.hid hU1
  have HG := Lib.hid hg
  clear hU1 hK1 hg hm hU hK hS hlen hKU hSU hS1 hj hz
  have hsec := secret_two z j w ((w.setCell ⟨U, 0, none⟩ (.int .i64 (m : Int)))) hsz (by omega) (by omega)
  have hb0 : U < ((w.setCell ⟨U, 0, none⟩ (.int .i64 (m : Int))).alloc (.cells #[.int .u64 (z : Int), .int .u64 (j : Int)] 22)).heap.size := by simp; omega
  have HB := Lib.hid (fun (w' : World) (hb : Below ((w.setCell ⟨U, 0, none⟩ (.int .i64 (m : Int))).alloc (.cells #[.int .u64 (z : Int), .int .u64 (j : Int)] 22)).heap.size ((w.setCell ⟨U, 0, none⟩ (.int .i64 (m : Int))).alloc (.cells #[.int .u64 (z : Int), .int .u64 (j : Int)] 22)) w') =>
    (⟨(blk_alloc HU1.out _).below hb hb0, only_below (only_below HG.out ((Below.refl _ _).alloc (Nat.le_refl _) _)) hb⟩ : Blk w' U 3 #[.int .i64 (m : Int)] ∧ w.grownBy w' (some U)))
  have HSEC := Lib.hid hsec
  clear hsec hb0 hsz
  go_enter Try.func20, Try.ntmps20
  go_wp2_with fail
  refine (HSEC.out).mono ?_
  rintro e w' ⟨rfl, hb⟩
  go_wp2
  go_ret
  exact ⟨rfl, HB.out _ hb⟩

/-- The counter counts on, all else of the draws stays. -/
theorem Drs.next {lo : Nat} {w w' : World} {D U seed n m : Nat} {l : List Nat} (h : Drs lo w D U seed l n) (hU : Blk w' U 3 #[.int .i64 (m : Int)]) (hg : w.grownBy w' (some U)) : Drs lo w' D U seed l m := by
  obtain ⟨S, K, A, c, hlo, hD, hU0, hK, hS, hA⟩ := h
  have hne : ∀ B t cs, Blk w B t cs → t ≠ 3 → some B ≠ some U := by
    intro B t cs hb ht e
    injection e with e
    subst e
    exact ht (blk_type hb hU0)
  exact ⟨S, K, A, c, hlo, blk_grown hD hg (hne D _ _ hD (by decide)), hU, blk_grown hK hg (hne K _ _ hK (by decide)), blk_grown hS hg (hne S _ _ hS (by decide)),
    hA.grown _ hg fun g e => .inr (by injection e with e; subst e; exact ⟨_, hU0⟩)⟩

theorem clo_any (lo U K S seed n c : Nat) (A : Option Addr) (l : List Nat) (w : World) (hl : l.length ≤ 1000000) (hnb : n ≤ 1000000000) (hs : seed < 18446744073709551616) (hx : ∀ x ∈ l, x < 18446744073709551616)
    (hU : Blk w U 3 #[.int .i64 n]) (hK : Blk w K 23 #[.slice A l.length c]) (hS : Blk w S 22 #[.int .u64 seed]) (hA : Kp lo w A l) :
    Calls Try.prog 20 #[.pointer (some ⟨U, 0, none⟩), .pointer (some ⟨K, 0, none⟩), .pointer (some ⟨S, 0, none⟩)] w fun e w' =>
      e = .returned (.int .u64 (Dw.nth seed l (n + 1) : Nat)) ∧ Blk w' U 3 #[.int .i64 ((n + 1 : Nat) : Int)] ∧ w.grownBy w' (some U) := by
  rcases Nat.lt_or_ge n l.length with h | h
  · exact clo_said lo U K S seed n c A l w hl h hx hU hK hA
  · exact clo_seed U K S seed n c A l w hl h hnb hs hU hK hS

set_option maxHeartbeats 800000 in
theorem next_any (lo D U seed n : Nat) (l : List Nat) (w : World) (hl : l.length ≤ 1000000) (hnb : n ≤ 1000000000) (hs : seed < 18446744073709551616) (hx : ∀ x ∈ l, x < 18446744073709551616)
    (h : Drs lo w D U seed l n) :
    Calls Try.prog 14 #[.pointer (some ⟨D, 0, none⟩)] w fun e w' => e = .returned (.int .u64 (Dw.nth seed l (n + 1) : Nat)) ∧ Drs lo w' D U seed l (n + 1) ∧ w.grownBy w' (some U) := by
  have hnx := fun w' (hU : Blk w' U 3 #[.int .i64 ((n + 1 : Nat) : Int)]) (hg : w.grownBy w' (some U)) => h.next hU hg
  obtain ⟨S, K, A, c, hlo, hD, hU, hK, hS, hA⟩ := h
  have hclo := clo_any lo U K S seed n c A l w hl hnb hs hx hU hK hS hA
  have c0 : w.cell? ⟨D, 0, none⟩ = some (.func (.func 20) #[] #[.pointer (some ⟨U, 0, none⟩), .pointer (some ⟨K, 0, none⟩), .pointer (some ⟨S, 0, none⟩)]) := hD.cell 0
  obtain ⟨y, hy⟩ : ∃ y : Nat, y = Dw.nth seed l (n + 1) := ⟨_, rfl⟩
  rw [← hy] at hclo ⊢
  have HC := Lib.hid hclo
  have HN := Lib.hid hnx
  clear hclo hD hU hK hS hA hx hy hlo hnx
  go_enter Try.func14, Try.ntmps14
  go_wp2_with (go_at_call 20; refine (HC.out).mono ?_; rintro e w' ⟨rfl, hU', hg⟩)
  go_ret
  exact ⟨rfl, HN.out _ hU' hg, hg⟩

set_option maxHeartbeats 800000 in
theorem below_any (lo D U seed n m : Nat) (l : List Nat) (w : World) (hl : l.length ≤ 1000000) (hnb : n ≤ 1000000000) (hs : seed < 18446744073709551616) (hx : ∀ x ∈ l, x < 18446744073709551616)
    (hm : 0 < m) (hmb : m ≤ 9223372036854775807) (h : Drs lo w D U seed l n) :
    Calls Try.prog 15 #[.pointer (some ⟨D, 0, none⟩), .int .i64 (m : Int)] w fun e w' => e = .returned (.int .i64 ((Dw.nth seed l (n + 1) % m : Nat) : Int)) ∧ Drs lo w' D U seed l (n + 1) ∧ w.grownBy w' (some U) := by
  have hnx := fun w' (hU : Blk w' U 3 #[.int .i64 ((n + 1 : Nat) : Int)]) (hg : w.grownBy w' (some U)) => h.next hU hg
  have hle := (Dw.nth_pos seed l (n + 1)).2
  obtain ⟨S, K, A, c, hlo, hD, hU, hK, hS, hA⟩ := h
  have hclo := clo_any lo U K S seed n c A l w hl hnb hs hx hU hK hS hA
  have c0 : w.cell? ⟨D, 0, none⟩ = some (.func (.func 20) #[] #[.pointer (some ⟨U, 0, none⟩), .pointer (some ⟨K, 0, none⟩), .pointer (some ⟨S, 0, none⟩)]) := hD.cell 0
  obtain ⟨y, hy⟩ : ∃ y : Nat, y = Dw.nth seed l (n + 1) := ⟨_, rfl⟩
  rw [← hy] at hclo hle ⊢
  obtain ⟨r, hr⟩ : ∃ r : Nat, r = y % m := ⟨_, rfl⟩
  have hr1 : (y : Int) % (m : Int) = (r : Int) := by rw [hr]; omega
  have hr2 : r < m := by rw [hr]; exact Nat.mod_lt _ hm
  rw [← hr]
  have h1 : ¬ (m : Int) < 1 := by omega
  have hm0 : ((m : Int) == 0) = false := by rw [beq_eq_false_iff_ne]; omega
  have hwm : IntKind.u64.wrap (m : Int) = (m : Int) := by rw [IntKind.wrap_u64]; omega
  have hwr : IntKind.i64.wrap (r : Int) = (r : Int) := by rw [IntKind.wrap_i64]; omega
  have HC := Lib.hid hclo
  have HN := Lib.hid hnx
  clear hclo hD hU hK hS hA hx hy hlo hnx hr
  go_enter Try.func15, Try.ntmps15
  go_wp2_with (go_at_call 20; refine (HC.out).mono ?_; rintro e w' ⟨rfl, hU', hg⟩)
  go_ret
  exact ⟨rfl, HN.out _ hU' hg, hg⟩

set_option maxHeartbeats 800000 in
theorem used_any (lo D U seed n : Nat) (l : List Nat) (w : World) (h : Drs lo w D U seed l n) :
    Calls Try.prog 16 #[.pointer (some ⟨D, 0, none⟩)] w fun e w' => e = .returned (.int .i64 (n : Int)) ∧ w = w' := by
  obtain ⟨S, K, A, c, hlo, hD, hU, hK, hS, hA⟩ := h
  have c0 : w.cell? ⟨D, 1, none⟩ = some (.func (.func 23) #[] #[.pointer (some ⟨U, 0, none⟩)]) := hD.cell 1
  have u0 : w.cell? ⟨U, 0, none⟩ = some (.int .i64 (n : Int)) := hU.cell 0
  have hclo : Calls Try.prog 23 #[.pointer (some ⟨U, 0, none⟩)] w fun e w' => e = .returned (.int .i64 (n : Int)) ∧ w = w' := by
    clear hD hK hS hA hlo c0 hU
    go_enter Try.func23, Try.ntmps23
    go_wp2
    go_ret
    exact ⟨rfl, rfl⟩
  have HC := Lib.hid hclo
  clear hclo hD hU hK hS hA hlo u0
  go_enter Try.func16, Try.ntmps16
  go_wp2_with (go_at_call 23; refine (HC.out).mono ?_; rintro e w' ⟨rfl, rfl⟩)
  go_ret
  exact ⟨rfl, rfl⟩

end Go.Proofs.Ytmmigancjggpgaa
