/-
  The reference's polynomials: a list that grows by one number; a list, trimmed; a coefficient.
-/
import Derived.Test.YtalljoneflepiaaDvc
import Derived.RangeFuncBox
import Derived.Laws.AppendOwn
namespace Go.Proofs.Ytalljoneflepiaa
open Go.RowKit

/-- A list of its own, from block B on. -/
def Gl (B : Nat) (w : World) (o : Value) (L : List Nat) : Prop := ∃ A c, o = .slice A L.length c ∧ w.ownsRow B 23 1 (.slice A L.length c) L.length (u64s L)
theorem Gl.nil (B : Nat) (w : World) : Gl B w (.slice none 0 0) [] := ⟨none, 0, rfl, World.ownsRow_nil w B 23 1⟩
theorem Gl.below {B : Nat} {w w' : World} {o : Value} {L : List Nat} (h : Gl B w o L) (hb : Below w.heap.size w w') : Gl B w' o L := by
  obtain ⟨A, c, e, h1⟩ := h
  exact ⟨A, c, e, own_below h1 hb⟩
theorem Gl.pt {B : Nat} {w : World} {o : Value} {L : List Nat} (h : Gl B w o L) : ∃ A c, o = .slice A L.length c ∧ Pt w A L.length c L ∧ ∀ bl off, A = some ⟨bl, off, none⟩ → B ≤ bl := by
  obtain ⟨A, c, e, h1⟩ := h
  refine ⟨A, c, e, ⟨rfl, Rd.of_own h1, ?_, fun ha => ?_⟩, fun bl off ha => ?_⟩
  · rcases h1.2 with ⟨h2, h3⟩ | ⟨g, cap, cur, h2, _, _, h3, _⟩
    · omega
    · injection h2 with _ _ h2; omega
  · rcases h1.2 with ⟨h2, h3⟩ | ⟨g, cap, cur, h2, _⟩
    · injection h2
    · rw [ha] at h2; injection h2 with h2; cases h2
  · rw [ha] at h1
    exact (h1.lt bl rfl).1

theorem wpList_push64 {ops : Array Oper} {rest : List Oper} {o : Oper} {a : Act} {Q : Exit → Act → World → Prop} {w : World} (hgd : o.guard = none) (s x : Operand)
    (ho : o.op = .call { callee := .builtin .append, args := #[s, x], argTypes := #[22, 22] }) (B v : Nat) (L : List Nat) (u : Value) (hg : Gl B w u L) (hs : a.eval s = u) (hx : a.eval x = .slice (some ⟨w.heap.size, 0, none⟩) 1 1) (hk : L.length ≤ 1000000000) (hB : B ≤ w.heap.size)
    (h : ∀ z w1, Gl B w1 z (L ++ [v]) → Below B w w1 → wpList Try.prog ops Q rest (a.put o.dst z) w1) : wpList Try.prog ops Q (o :: rest) a (w.alloc (.cells #[.int .u64 (v : Int)] 23)) := by
  obtain ⟨i0, hi, hz0, hz1, hz2⟩ := info_parts info_u64
  obtain ⟨A, c, rfl, hrow⟩ := hg
  refine wpList_append_own _ hgd s x 22 ho B 23 i0 (.int .u64 0) 1 8 Try.underlying22 hi hz0 hz1 hz2 rfl (by decide) _ _ _ hs (hrow.alloc _) ⟨w.heap.size, 0, none⟩ 1 1 [.int .u64 (v : Int)] hx rfl (cell_one_new _ _ _) (by simp [Value.oneCell']) (by unfold maxLen; omega) (by omega) (by simp; omega) ?_
  intro v' w1 hown hgrow _
  obtain ⟨g, cap, rfl⟩ := ownsRow_succ hown
  refine h _ w1 ⟨_, cap, by rw [List.length_append]; rfl, ?_⟩ ?_
  · rw [u64s_snoc, List.length_append]
    exact hown
  · have hg2 : (w.alloc (.cells #[.int .u64 (v : Int)] 23)).grownBy w1 (Value.slice A L.length c).ownBlock := hgrow
    exact ((Below.refl B w).alloc hB _).grown hg2 (by simp; omega) (fun j e => (hrow.lt j e).1)

theorem take_next {l : List Nat} {k : Nat} (h : k < l.length) : l.take (k + 1) = l.take k ++ [l[k]?.getD 0] := by
  rw [List.take_succ_eq_append_getElem h, List.getElem?_eq_getElem h]; rfl
theorem Rd.num {B : Nat} {w : World} {A : Option Addr} {l : List Nat} (h : Rd B w A (u64s l)) {k : Nat} (hk : k < l.length) : ∃ b off, A = some ⟨b, off, none⟩ ∧ b < B ∧ w.cell? ⟨b, off + k, none⟩ = some (.int .u64 ((l[k]?.getD 0 : Nat) : Int)) := by
  obtain ⟨b, off, e, hb, hc⟩ := h (by rw [u64s_len]; omega)
  exact ⟨b, off, e, hb, hc k _ (u64s_at hk)⟩

theorem Pl.co_num (l : List Nat) : Pl.co (l.map Fld.num) = Pl.co l := Pl.ext fun i => by
  rw [Pl.co_at, Pl.co_at, List.getElem?_map]
  cases l[i]? with
  | none => rfl
  | some x => exact Fld.to_num x
theorem Pl.sm_num (l : List Nat) : Pl.Sm (l.map Fld.num) := fun x hx => by
  obtain ⟨y, _, rfl⟩ := List.mem_map.1 hx
  exact Fld.num_lt y

set_option maxRecDepth 100000 in
set_option maxHeartbeats 2000000 in
theorem rtrim_any (A : Option Addr) (n ca : Nat) (a : List Nat) (w : World) (hn : n = a.length) (hn9 : n ≤ 1000000) (hA : Rd w.heap.size w A (u64s a)) :
    Calls Try.prog 15 #[.slice A n ca] w fun e w' => Poly w.heap.size (Pl.co a) e w' ∧ Below w.heap.size w w' := by
  have HN := Lib.hid hn
  have HA := Lib.hid hA
  have hg0 := Gl.nil w.heap.size w
  have hb0 : Below w.heap.size w w := Below.refl _ _
  clear hn hA
  go_enter Try.func15, Try.ntmps15
  go_wp2
  go_loopw [3, 4] (fun o i wr => ∃ k : Nat, i = .int .i64 (k : Int) ∧ k ≤ n ∧ Gl w.heap.size wr o ((a.take k).map Fld.num) ∧ Below w.heap.size w wr) (fun _ i _ => n - (intOf i).toNat)
  case atStart => exact ⟨0, rfl, Nat.zero_le _, hg0, hb0⟩
  case round =>
    obtain ⟨k, rfl, hk, hg, hb⟩ := hrel
    have HG := Lib.hid hg
    have hsz := hb.size
    clear hg hg0 hb0
    by_cases hlt : k < n
    · obtain ⟨b, off, e1, hbb, hcl⟩ := HA.out.num (k := k) (by rw [← HN.out]; exact hlt)
      have hcr := (hb.cell (p := ⟨b, off + k, none⟩) hbb).trans hcl
      have htk : (a.take (k + 1)).map Fld.num = (a.take k).map Fld.num ++ [Fld.num (a[k]?.getD 0)] := by
        rw [take_next (by rw [← HN.out]; exact hlt), List.map_append]; rfl
      have hlen : ((a.take k).map Fld.num).length ≤ 1000000 := by rw [List.length_map, List.length_take]; omega
      obtain ⟨x, hx⟩ : ∃ x, x = a[k]?.getD 0 := ⟨_, rfl⟩
      rw [← hx] at hcr htk
      obtain ⟨y, hy⟩ : ∃ y, y = Fld.num x := ⟨_, rfl⟩
      have hnm := rnum_any x
      rw [← hy] at htk hnm
      have HTK := Lib.hid htk
      have HNM := Lib.hid hnm
      have HLEN := Lib.hid hlen
      clear hx hy htk hnm hcl hlen
      subst e1
      go_wp2_with (first
        | (go_at_call 42; ((with_reducible refine (HNM.out _).mono ?_); rintro e w' ⟨rfl, rfl⟩))
        | (at_builtin; refine wpList_push64 rfl _ _ rfl w.heap.size y _ _ HG.out rfl rfl (Nat.le_trans HLEN.out (by omega)) hsz ?_; intro z w1 hz1 hb1; have HZ1 := Lib.hid hz1; clear hz1))
      go_roundw
      case rel => exact ⟨k + 1, by go_num, hlt, by rw [HTK.out]; exact HZ1.out, hb.trans hb1⟩
      case measure => simp [intOf]; omega
    · have hkn : a.take k = a := List.take_of_length_le (by rw [← HN.out]; omega)
      obtain ⟨A1, c1, rfl, hp1, hB1⟩ := HG.out.pt
      have hco := Pl.co_num a
      have hsm := Pl.sm_num a
      rw [hkn] at hp1
      have hl : ((a.take k).map Fld.num).length = n := by rw [hkn, List.length_map, HN.out]
      rw [hl]
      have hp1 : Pt wr A1 n c1 (a.map Fld.num) := by
        have h := hp1
        rwa [List.length_map, ← HN.out] at h
      obtain ⟨L, hL⟩ : ∃ L, L = a.map Fld.num := ⟨_, rfl⟩
      rw [← hL] at hp1 hco hsm
      have HP1 := Lib.hid hp1
      have HCO := Lib.hid hco
      have HSM := Lib.hid hsm
      have HB1 := Lib.hid hB1
      clear hl hp1 hco hsm hB1 hL hkn HG
      go_wp2
      have hnb : (n : Int) ≤ 1000000 := by omega
      go_loop [3] (fun s => ∃ m : Nat, s = .slice A1 m c1 ∧ m ≤ n ∧ Pl.co (L.take m) = Pl.co L) (fun s => match s with | .slice _ m _ => m | _ => 0)
      case atStart => exact ⟨n, rfl, Nat.le_refl _, by rw [List.take_of_length_le (by have := HP1.out.1; omega)]⟩
      case round =>
        obtain ⟨m, rfl, hm, hcm⟩ := hrel
        have HC := Lib.hid hcm
        clear hcm
        cases m with
        | zero =>
          go_wp2
          go_ret
          refine ⟨⟨A1, 0, c1, [], rfl, ⟨rfl, Rd.nil, Nat.zero_le _, HP1.out.2.2.2⟩, ⟨Pl.Tr.nil, ?_⟩, HB1.out⟩, hb⟩
          rw [← HCO.out, ← HC.out, List.take_zero]
        | succ j =>
          obtain ⟨b, off, e1, hbb, hcl⟩ := HP1.out.2.1.num (k := j) (by have := HP1.out.1; omega)
          obtain ⟨x, hx⟩ : ∃ x, x = L[j]?.getD 0 := ⟨_, rfl⟩
          rw [← hx] at hcl
          have HX := Lib.hid hx
          clear hx
          subst e1
          have hcc := HP1.out.2.2.1
          have hsl := slice_head 22 (by kernel_rfl) (fun W => by kernel_rfl) (some ⟨b, off, none⟩) (j + 1) c1 j (by omega)
          by_cases h0 : x = 0
          · have hd : ((x : Int) == 0) = true := by rw [h0]; rfl
            have H0 := Lib.hid h0
            clear h0
            go_wp2
            go_round
            case rel => exact ⟨j, rfl, by omega, by rw [← HC.out]; exact Pl.co_take_zero (by rw [← HX.out]; exact H0.out)⟩
            case measure => simp
          · have hd : ((x : Int) == 0) = false := by rw [beq_eq_false_iff_ne]; omega
            have H0 := Lib.hid h0
            clear h0
            go_wp2
            go_ret
            have hl1 := HP1.out.1
            refine ⟨⟨_, j + 1, c1, L.take (j + 1), rfl, ⟨by rw [List.length_take]; omega, HP1.out.2.1.take _, by omega, fun e => by cases e⟩, ⟨⟨HSM.out.take _, .inr ?_⟩, by rw [HC.out, HCO.out]⟩, HB1.out⟩, hb⟩
            rw [List.length_take, Nat.min_eq_left (by omega), Nat.add_sub_cancel, take_get _ _ _ (by omega), ← HX.out]
            exact H0.out
end Go.Proofs.Ytalljoneflepiaa
