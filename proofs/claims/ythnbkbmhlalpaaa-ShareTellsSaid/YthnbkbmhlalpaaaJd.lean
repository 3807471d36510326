/-
  Joined texts: Rpa Rpb Rpc Hpa Lvs Vls Rpg Lwc Hpb LwE Lwf LwJ.
-/
import Derived.Test.YthnbkbmhlalpaaaJc
import Derived.RangeFuncBox
import Derived.Laws.AppendOwn
import Derived.Test.YthnbkbmhlalpaaaJb
import Derived.Test.YthnbkbmhlalpaaaJe
import Derived.Laws.AppendOwnNone
import Derived.Test.YthnbkbmhlalpaaaJa

/-
  The reference's polynomials: a list that grows by one number; a list, trimmed; a coefficient.
-/
namespace Go.Proofs.Ythnbkbmhlalpaaa
open Go.RowKit

/-- A list of its own, from block B on. -/
def Gl (B : Nat) (w : World) (o : Value) (L : List Nat) : Prop := ∃ A c, o = .slice A L.length c ∧ w.ownsRow B 22 1 (.slice A L.length c) L.length (u64s L)
theorem Gl.nil (B : Nat) (w : World) : Gl B w (.slice none 0 0) [] := ⟨none, 0, rfl, World.ownsRow_nil w B 22 1⟩
theorem Gl.below {B : Nat} {w w' : World} {o : Value} {L : List Nat} (h : Gl B w o L) (hb : Below w.heap.size w w') : Gl B w' o L := by
  obtain ⟨A, c, e, h1⟩ := h
  exact ⟨A, c, e, own_below h1 hb⟩
theorem Gl.pt {B : Nat} {w : World} {o : Value} {L : List Nat} (h : Gl B w o L) : ∃ A c, o = .slice A L.length c ∧ Pt w A L.length c L ∧ ∀ bl off, A = some ⟨bl, off, none⟩ → B ≤ bl := by
  obtain ⟨A, c, e, h1⟩ := h
  refine ⟨A, c, e, ⟨rfl, Rd.of_own h1, ?_, fun ha => ?_⟩, fun bl off ha => ?_⟩
  · rcases h1.2 with ⟨h2, h3⟩ | ⟨g, cap, cur, h2, _, _, h3, _⟩
    · omega
    · injection h2 with _ _ h2; omega
  · rcases h1.2 with ⟨h2, h3⟩ | ⟨g, cap, cur, h2, _⟩
    · injection h2
    · rw [ha] at h2; injection h2 with h2; cases h2
  · rw [ha] at h1
    exact (h1.lt bl rfl).1

theorem wpList_push64 {ops : Array Oper} {rest : List Oper} {o : Oper} {a : Act} {Q : Exit → Act → World → Prop} {w : World} (hgd : o.guard = none) (s x : Operand)
    (ho : o.op = .call { callee := .builtin .append, args := #[s, x], argTypes := #[23, 23] }) (B v : Nat) (L : List Nat) (u : Value) (hg : Gl B w u L) (hs : a.eval s = u) (hx : a.eval x = .slice (some ⟨w.heap.size, 0, none⟩) 1 1) (hk : L.length ≤ 1000000000) (hB : B ≤ w.heap.size)
    (h : ∀ z w1, Gl B w1 z (L ++ [v]) → Below B w w1 → wpList Try.prog ops Q rest (a.put o.dst z) w1) : wpList Try.prog ops Q (o :: rest) a (w.alloc (.cells #[.int .u64 (v : Int)] 22)) := by
  obtain ⟨i0, hi, hz0, hz1, hz2⟩ := info_parts info_u64
  obtain ⟨A, c, rfl, hrow⟩ := hg
  refine wpList_append_own _ hgd s x 23 ho B 22 i0 (.int .u64 0) 1 8 Try.underlying23 hi hz0 hz1 hz2 rfl (by decide) _ _ _ hs (hrow.alloc _) ⟨w.heap.size, 0, none⟩ 1 1 [.int .u64 (v : Int)] hx rfl (cell_one_new _ _ _) (by simp [Value.oneCell']) (by unfold maxLen; omega) (by omega) (by simp; omega) ?_
  intro v' w1 hown hgrow _
  obtain ⟨g, cap, rfl⟩ := ownsRow_succ hown
  refine h _ w1 ⟨_, cap, by rw [List.length_append]; rfl, ?_⟩ ?_
  · rw [u64s_snoc, List.length_append]
    exact hown
  · have hg2 : (w.alloc (.cells #[.int .u64 (v : Int)] 22)).grownBy w1 (Value.slice A L.length c).ownBlock := hgrow
    exact ((Below.refl B w).alloc hB _).grown hg2 (by simp; omega) (fun j e => (hrow.lt j e).1)

theorem take_next {l : List Nat} {k : Nat} (h : k < l.length) : l.take (k + 1) = l.take k ++ [l[k]?.getD 0] := by
  rw [List.take_succ_eq_append_getElem h, List.getElem?_eq_getElem h]; rfl
theorem Rd.num {B : Nat} {w : World} {A : Option Addr} {l : List Nat} (h : Rd B w A (u64s l)) {k : Nat} (hk : k < l.length) : ∃ b off, A = some ⟨b, off, none⟩ ∧ b < B ∧ w.cell? ⟨b, off + k, none⟩ = some (.int .u64 ((l[k]?.getD 0 : Nat) : Int)) := by
  obtain ⟨b, off, e, hb, hc⟩ := h (by rw [u64s_len]; omega)
  exact ⟨b, off, e, hb, hc k _ (u64s_at hk)⟩

theorem Pl.co_num (l : List Nat) : Pl.co (l.map Fld.num) = Pl.co l := Pl.ext fun i => by
  rw [Pl.co_at, Pl.co_at, List.getElem?_map]
  cases l[i]? with
  | none => rfl
  | some x => exact Fld.to_num x
theorem Pl.sm_num (l : List Nat) : Pl.Sm (l.map Fld.num) := fun x hx => by
  obtain ⟨y, _, rfl⟩ := List.mem_map.1 hx
  exact Fld.num_lt y

set_option maxRecDepth 100000 in
set_option maxHeartbeats 2000000 in
theorem rtrim_any (A : Option Addr) (n ca : Nat) (a : List Nat) (w : World) (hn : n = a.length) (hn9 : n ≤ 1000000) (hA : Rd w.heap.size w A (u64s a)) :
    Calls Try.prog 57 #[.slice A n ca] w fun e w' => Poly w.heap.size (Pl.co a) e w' ∧ Below w.heap.size w w' := by
  have HN := Lib.hid hn
  have HA := Lib.hid hA
  have hg0 := Gl.nil w.heap.size w
  have hb0 : Below w.heap.size w w := Below.refl _ _
  clear hn hA
  go_enter Try.func57, Try.ntmps57
  go_wp2
  go_loopw [3, 4] (fun o i wr => ∃ k : Nat, i = .int .i64 (k : Int) ∧ k ≤ n ∧ Gl w.heap.size wr o ((a.take k).map Fld.num) ∧ Below w.heap.size w wr) (fun _ i _ => n - (intOf i).toNat)
  case atStart => exact ⟨0, rfl, Nat.zero_le _, hg0, hb0⟩
  case round =>
    obtain ⟨k, rfl, hk, hg, hb⟩ := hrel
    have HG := Lib.hid hg
    have hsz := hb.size
    clear hg hg0 hb0
    by_cases hlt : k < n
    · obtain ⟨b, off, e1, hbb, hcl⟩ := HA.out.num (k := k) (by rw [← HN.out]; exact hlt)
      have hcr := (hb.cell (p := ⟨b, off + k, none⟩) hbb).trans hcl
      have htk : (a.take (k + 1)).map Fld.num = (a.take k).map Fld.num ++ [Fld.num (a[k]?.getD 0)] := by
        rw [take_next (by rw [← HN.out]; exact hlt), List.map_append]; rfl
      have hlen : ((a.take k).map Fld.num).length ≤ 1000000 := by rw [List.length_map, List.length_take]; omega
      obtain ⟨x, hx⟩ : ∃ x, x = a[k]?.getD 0 := ⟨_, rfl⟩
      rw [← hx] at hcr htk
      obtain ⟨y, hy⟩ : ∃ y, y = Fld.num x := ⟨_, rfl⟩
      have hnm := rnum_any x
      rw [← hy] at htk hnm
      have HTK := Lib.hid htk
      have HNM := Lib.hid hnm
      have HLEN := Lib.hid hlen
      clear hx hy htk hnm hcl hlen
      subst e1
      go_wp2_with (first
        | (go_at_call 32; ((with_reducible refine (HNM.out _).mono ?_); rintro e w' ⟨rfl, rfl⟩))
        | (at_builtin; refine wpList_push64 rfl _ _ rfl w.heap.size y _ _ HG.out rfl rfl (Nat.le_trans HLEN.out (by omega)) hsz ?_; intro z w1 hz1 hb1; have HZ1 := Lib.hid hz1; clear hz1))
      go_roundw
      case rel => exact ⟨k + 1, by go_num, hlt, by rw [HTK.out]; exact HZ1.out, hb.trans hb1⟩
      case measure => simp [intOf]; omega
    · have hkn : a.take k = a := List.take_of_length_le (by rw [← HN.out]; omega)
      obtain ⟨A1, c1, rfl, hp1, hB1⟩ := HG.out.pt
      have hco := Pl.co_num a
      have hsm := Pl.sm_num a
      rw [hkn] at hp1
      have hl : ((a.take k).map Fld.num).length = n := by rw [hkn, List.length_map, HN.out]
      rw [hl]
      have hp1 : Pt wr A1 n c1 (a.map Fld.num) := by
        have h := hp1
        rwa [List.length_map, ← HN.out] at h
      obtain ⟨L, hL⟩ : ∃ L, L = a.map Fld.num := ⟨_, rfl⟩
      rw [← hL] at hp1 hco hsm
      have HP1 := Lib.hid hp1
      have HCO := Lib.hid hco
      have HSM := Lib.hid hsm
      have HB1 := Lib.hid hB1
      clear hl hp1 hco hsm hB1 hL hkn HG
      go_wp2
      have hnb : (n : Int) ≤ 1000000 := by omega
      go_loop [3] (fun s => ∃ m : Nat, s = .slice A1 m c1 ∧ m ≤ n ∧ Pl.co (L.take m) = Pl.co L) (fun s => match s with | .slice _ m _ => m | _ => 0)
      case atStart => exact ⟨n, rfl, Nat.le_refl _, by rw [List.take_of_length_le (by have := HP1.out.1; omega)]⟩
      case round =>
        obtain ⟨m, rfl, hm, hcm⟩ := hrel
        have HC := Lib.hid hcm
        clear hcm
        cases m with
        | zero =>
          go_wp2
          go_ret
          refine ⟨⟨A1, 0, c1, [], rfl, ⟨rfl, Rd.nil, Nat.zero_le _, HP1.out.2.2.2⟩, ⟨Pl.Tr.nil, ?_⟩, HB1.out⟩, hb⟩
          rw [← HCO.out, ← HC.out, List.take_zero]
        | succ j =>
          obtain ⟨b, off, e1, hbb, hcl⟩ := HP1.out.2.1.num (k := j) (by have := HP1.out.1; omega)
          obtain ⟨x, hx⟩ : ∃ x, x = L[j]?.getD 0 := ⟨_, rfl⟩
          rw [← hx] at hcl
          have HX := Lib.hid hx
          clear hx
          subst e1
          have hcc := HP1.out.2.2.1
          have hsl := slice_head 23 (by kernel_rfl) (fun W => by kernel_rfl) (some ⟨b, off, none⟩) (j + 1) c1 j (by omega)
          by_cases h0 : x = 0
          · have hd : ((x : Int) == 0) = true := by rw [h0]; rfl
            have H0 := Lib.hid h0
            clear h0
            go_wp2
            go_round
            case rel => exact ⟨j, rfl, by omega, by rw [← HC.out]; exact Pl.co_take_zero (by rw [← HX.out]; exact H0.out)⟩
            case measure => simp
          · have hd : ((x : Int) == 0) = false := by rw [beq_eq_false_iff_ne]; omega
            have H0 := Lib.hid h0
            clear h0
            go_wp2
            go_ret
            have hl1 := HP1.out.1
            refine ⟨⟨_, j + 1, c1, L.take (j + 1), rfl, ⟨by rw [List.length_take]; omega, HP1.out.2.1.take _, by omega, fun e => by cases e⟩, ⟨⟨HSM.out.take _, .inr ?_⟩, by rw [HC.out, HCO.out]⟩, HB1.out⟩, hb⟩
            rw [List.length_take, Nat.min_eq_left (by omega), Nat.add_sub_cancel, take_get _ _ _ (by omega), ← HX.out]
            exact H0.out
end Go.Proofs.Ythnbkbmhlalpaaa

/-
  The reference's sums of polynomials, products with a number, and values.
-/
namespace Go.Proofs.Ythnbkbmhlalpaaa
open Go.RowKit

set_option maxHeartbeats 1000000 in
theorem rat_any (A : Option Addr) (n ca i : Nat) (a : List Nat) (w : World) (hn : n = a.length) (hA : Rd w.heap.size w A (u64s a)) :
    Calls Try.prog 58 #[.slice A n ca, .int .i64 (i : Int)] w fun e w' => e = .returned (.int .u64 ((a[i]?.getD 0 : Nat) : Int)) ∧ w = w' := by
  by_cases h : i < n
  · obtain ⟨b, off, rfl, hb, hc⟩ := hA.num (k := i) (by rw [← hn]; exact h)
    obtain ⟨x, hx⟩ : ∃ x, x = a[i]?.getD 0 := ⟨_, rfl⟩
    rw [← hx] at hc ⊢
    clear hx hA hn
    go_enter Try.func58, Try.ntmps58
    go_wp2
    go_ret
    exact ⟨rfl, rfl⟩
  · rw [List.getElem?_eq_none (by rw [← hn]; omega)]
    clear hA hn
    go_enter Try.func58, Try.ntmps58
    go_wp2
    go_ret
    exact ⟨rfl, rfl⟩

namespace Pl
theorem co_tab_all {f : Nat → Nat} {n : Nat} {s : Pl} (hl : Lt s n) (h : ∀ i, i < n → Fld.to (f i) = s i) : co (tab f n) = s := ext fun i => by
  rw [co_tab]
  by_cases hi : i < n
  · rw [if_pos hi, h i hi]
  · rw [if_neg hi, hl i (by omega)]
end Pl
theorem Rd.at_world {w wr : World} {A : Option Addr} {vs : List Value} (h : Rd w.heap.size w A vs) (hb : Below w.heap.size w wr) : Rd wr.heap.size wr A vs := (h.below hb).more hb.size

set_option maxRecDepth 100000 in
set_option maxHeartbeats 2000000 in
theorem radd_poly (A A2 : Option Addr) (n ca m cb : Nat) (a b : List Nat) (w : World) (hn : n = a.length) (hm : m = b.length) (hn9 : n ≤ 100000) (hm9 : m ≤ 100000) (hA : Rd w.heap.size w A (u64s a)) (hA2 : Rd w.heap.size w A2 (u64s b)) :
    Calls Try.prog 50 #[.slice A n ca, .slice A2 m cb] w fun e w' => Poly w.heap.size (Pl.co a + Pl.co b) e w' ∧ Below w.heap.size w w' := by
  obtain ⟨K, hK⟩ : ∃ K, K = max n m := ⟨_, rfl⟩
  have hK1 : n ≤ K := by omega
  have hK2 : m ≤ K := by omega
  have hK3 : K ≤ n ∨ K ≤ m := by omega
  obtain ⟨f, hf⟩ : ∃ f : Nat → Nat, f = fun i => Fld.add (a[i]?.getD 0) (b[i]?.getD 0) := ⟨_, rfl⟩
  have hco : Pl.co (Pl.tab f K) = Pl.co a + Pl.co b := by
    refine Pl.co_tab_all (((Pl.Lt.co a).mono (by omega)).add ((Pl.Lt.co b).mono (by omega))) fun i _ => ?_
    rw [hf]
    exact Fld.to_addF _ _
  have HCO := Lib.hid hco
  have HF := Lib.hid hf
  have HN := Lib.hid hn
  have HM := Lib.hid hm
  have HA := Lib.hid hA
  have HA2 := Lib.hid hA2
  have hg0 := Gl.nil w.heap.size w
  have hb0 : Below w.heap.size w w := Below.refl _ _
  clear hK hn hm hA hA2 hf hco
  go_enter Try.func50, Try.ntmps50
  go_wp2
  go_loopw [5, 6] (fun o i wr => ∃ k : Nat, i = .int .i64 (k : Int) ∧ k ≤ K ∧ Gl w.heap.size wr o (Pl.tab f k) ∧ Below w.heap.size w wr) (fun _ i _ => K - (intOf i).toNat)
  case atStart => exact ⟨0, rfl, Nat.zero_le _, hg0, hb0⟩
  case round =>
    obtain ⟨k, rfl, hk, hg, hb⟩ := hrel
    have HG := Lib.hid hg
    have hsz := hb.size
    clear hg hg0 hb0
    by_cases hlt : k < K
    · have htk := Pl.tab_succ f k
      have hlen := Pl.tab_len f k
      have hra := rat_any A n ca k a wr HN.out (HA.out.at_world hb)
      have hrb := rat_any A2 m cb k b wr HM.out (HA2.out.at_world hb)
      have hfk : f k = Fld.add (a[k]?.getD 0) (b[k]?.getD 0) := by rw [HF.out]
      obtain ⟨x, hx⟩ : ∃ x, x = a[k]?.getD 0 := ⟨_, rfl⟩
      obtain ⟨y, hy⟩ : ∃ y, y = b[k]?.getD 0 := ⟨_, rfl⟩
      rw [← hx] at hra hfk
      rw [← hy] at hrb hfk
      have hrs := radd_any x y wr
      obtain ⟨z, hz⟩ : ∃ z, z = f k := ⟨_, rfl⟩
      rw [← hfk, ← hz] at hrs
      rw [← hz] at htk
      have HTK := Lib.hid htk
      have HRA := Lib.hid hra
      have HRB := Lib.hid hrb
      have HRS := Lib.hid hrs
      have HLEN := Lib.hid (show (Pl.tab f k).length ≤ 100000 by rw [hlen]; omega)
      clear hx hy hz hfk htk hra hrb hrs hlen
      have hcase : (k < n) ∨ (¬ k < n ∧ k < m) := by omega
      rcases hcase with h1 | ⟨h1, h2⟩
      all_goals
        go_wp2_with fail
        refine HRA.out.mono ?_
        rintro e w' ⟨rfl, rfl⟩
        go_wp2_with fail
        refine HRB.out.mono ?_
        rintro e w' ⟨rfl, rfl⟩
        go_wp2_with fail
        refine HRS.out.mono ?_
        rintro e w' ⟨rfl, rfl⟩
        go_wp2_with (at_builtin; refine wpList_push64 rfl _ _ rfl w.heap.size z _ _ HG.out rfl rfl (Nat.le_trans HLEN.out (by omega)) hsz ?_; intro u w1 hz1 hb1; have HZ1 := Lib.hid hz1; clear hz1)
        go_roundw
        case rel => exact ⟨k + 1, by go_num, hlt, by rw [HTK.out]; exact HZ1.out, hb.trans hb1⟩
        case measure => simp [intOf]; omega
    · have hkK : k = K := by omega
      subst hkK
      have h1 : ¬ k < n := by omega
      have h2 : ¬ k < m := by omega
      obtain ⟨A1, c1, rfl, hp1, hB1⟩ := HG.out.pt
      have hl := Pl.tab_len f k
      obtain ⟨L, hL⟩ : ∃ L, L = Pl.tab f k := ⟨_, rfl⟩
      have hco := HCO.out
      rw [← hL] at hp1 hl hco ⊢
      obtain ⟨nl, hnl⟩ : ∃ nl, nl = L.length := ⟨_, rfl⟩
      rw [← hnl] at hp1 hl ⊢
      have htr := rtrim_any A1 nl c1 L wr hnl (by omega) hp1.2.1
      rw [hco] at htr
      have HTR := Lib.hid htr
      clear hp1 hl hL hco hnl htr hB1 HG
      go_wp2_with fail
      refine HTR.out.mono ?_
      rintro e w' ⟨⟨A3, n3, c3, l3, rfl, hp3, hi3, hb3⟩, hb4⟩
      have H3 := Lib.hid (And.intro hp3 (And.intro hi3 hb3))
      clear hp3 hi3 hb3
      go_wp2
      go_ret
      exact ⟨⟨A3, n3, c3, l3, rfl, H3.out.1, H3.out.2.1, fun bl off e => Nat.le_trans hsz (H3.out.2.2 bl off e)⟩, hb.trans (hb4.mono hsz)⟩

set_option maxRecDepth 100000 in
set_option maxHeartbeats 2000000 in
theorem rscale_poly (A : Option Addr) (n ca t : Nat) (a : List Nat) (w : World) (hn : n = a.length) (hn9 : n ≤ 100000) (hA : Rd w.heap.size w A (u64s a)) :
    Calls Try.prog 47 #[.slice A n ca, .int .u64 (t : Int)] w fun e w' => Poly w.heap.size (Pl.C (Fld.to t) * Pl.co a) e w' ∧ Below w.heap.size w w' := by
  obtain ⟨f, hf⟩ : ∃ f : Nat → Nat, f = fun i => Fld.mul (a[i]?.getD 0) t := ⟨_, rfl⟩
  have hco : Pl.co (Pl.tab f n) = Pl.C (Fld.to t) * Pl.co a := by
    refine Pl.co_tab_all (Pl.Lt.smul _ ((Pl.Lt.co a).mono (by omega))) fun i _ => ?_
    rw [hf, Pl.C_mul_at]
    show Fld.to (Fld.mul _ _) = _
    rw [Fld.to_mulF, Pl.co_at]
    grind
  have HCO := Lib.hid hco
  have HF := Lib.hid hf
  have HN := Lib.hid hn
  have HA := Lib.hid hA
  have hg0 := Gl.nil w.heap.size w
  have hb0 : Below w.heap.size w w := Below.refl _ _
  clear hn hA hf hco
  go_enter Try.func47, Try.ntmps47
  go_wp2
  go_loopw [5, 6] (fun o i wr => ∃ k : Nat, i = .int .i64 (k : Int) ∧ k ≤ n ∧ Gl w.heap.size wr o (Pl.tab f k) ∧ Below w.heap.size w wr) (fun _ i _ => n - (intOf i).toNat)
  case atStart => exact ⟨0, rfl, Nat.zero_le _, hg0, hb0⟩
  case round =>
    obtain ⟨k, rfl, hk, hg, hb⟩ := hrel
    have HG := Lib.hid hg
    have hsz := hb.size
    clear hg hg0 hb0
    by_cases hlt : k < n
    · have htk := Pl.tab_succ f k
      have hlen := Pl.tab_len f k
      obtain ⟨bl, off, e1, hbb, hcl⟩ := HA.out.num (k := k) (by rw [← HN.out]; exact hlt)
      have hcr := (hb.cell (p := ⟨bl, off + k, none⟩) hbb).trans hcl
      have hfk : f k = Fld.mul (a[k]?.getD 0) t := by rw [HF.out]
      obtain ⟨x, hx⟩ : ∃ x, x = a[k]?.getD 0 := ⟨_, rfl⟩
      rw [← hx] at hcr hfk
      have hrs := rmul_any x t wr
      obtain ⟨z, hz⟩ : ∃ z, z = f k := ⟨_, rfl⟩
      rw [← hfk, ← hz] at hrs
      rw [← hz] at htk
      have HTK := Lib.hid htk
      have HRS := Lib.hid hrs
      have HLEN := Lib.hid (show (Pl.tab f k).length ≤ 100000 by rw [hlen]; omega)
      clear hx hz hfk htk hrs hlen hcl
      subst e1
      go_wp2_with fail
      refine HRS.out.mono ?_
      rintro e w2 ⟨rfl, hb2⟩
      have hbw2 : Below w.heap.size w w2 := hb.trans (hb2.mono hsz)
      have hsz2 := hbw2.size
      have HG2 := Lib.hid (HG.out.below hb2)
      go_wp2_with (at_builtin; refine wpList_push64 rfl _ _ rfl w.heap.size z _ _ HG2.out rfl rfl (Nat.le_trans HLEN.out (by omega)) hsz2 ?_; intro u w1 hz1 hb1; have HZ1 := Lib.hid hz1; clear hz1)
      go_roundw
      case rel => exact ⟨k + 1, by go_num, hlt, by rw [HTK.out]; exact HZ1.out, hbw2.trans hb1⟩
      case measure => simp [intOf]; omega
    · have hkK : k = n := by omega
      subst hkK
      obtain ⟨A1, c1, rfl, hp1, hB1⟩ := HG.out.pt
      have hl := Pl.tab_len f k
      obtain ⟨L, hL⟩ : ∃ L, L = Pl.tab f k := ⟨_, rfl⟩
      have hco := HCO.out
      rw [← hL] at hp1 hl hco ⊢
      obtain ⟨nl, hnl⟩ : ∃ nl, nl = L.length := ⟨_, rfl⟩
      rw [← hnl] at hp1 hl ⊢
      have htr := rtrim_any A1 nl c1 L wr hnl (by omega) hp1.2.1
      rw [hco] at htr
      have HTR := Lib.hid htr
      clear hp1 hl hL hco hnl htr hB1 HG
      go_wp2_with fail
      refine HTR.out.mono ?_
      rintro e w' ⟨⟨A3, n3, c3, l3, rfl, hp3, hi3, hb3⟩, hb4⟩
      have H3 := Lib.hid (And.intro hp3 (And.intro hi3 hb3))
      clear hp3 hi3 hb3
      go_wp2
      go_ret
      exact ⟨⟨A3, n3, c3, l3, rfl, H3.out.1, H3.out.2.1, fun bl off e => Nat.le_trans hsz (H3.out.2.2 bl off e)⟩, hb.trans (hb4.mono hsz)⟩

theorem hv_drop (x : Nat) (a : List Nat) (k : Nat) (h : k < a.length) : Pl.hv x (a.drop k) = Fld.add (Fld.mul (Pl.hv x (a.drop (k + 1))) x) (a[k]?.getD 0) := by
  rw [List.drop_eq_getElem_cons h, List.getElem?_eq_getElem h]; rfl

set_option maxRecDepth 100000 in
set_option maxHeartbeats 2000000 in
theorem reval_any (A : Option Addr) (n ca x : Nat) (a : List Nat) (w : World) (hn : n = a.length) (hn9 : n ≤ 100000) (hA : Rd w.heap.size w A (u64s a)) :
    Calls Try.prog 27 #[.slice A n ca, .int .u64 (x : Int)] w fun e w' => e = .returned (.int .u64 (Pl.hv x a : Nat)) ∧ Below w.heap.size w w' := by
  have HN := Lib.hid hn
  have HA := Lib.hid hA
  have hd0 : Pl.hv x (a.drop n) = 0 := by rw [List.drop_of_length_le (by omega)]; rfl
  have HD0 := Lib.hid hd0
  clear hn hA hd0
  go_enter Try.func27, Try.ntmps27
  go_wp2
  go_loopw [5, 6] (fun o i wr => ∃ k j : Nat, i = .int .i64 ((k : Int) - 1) ∧ k ≤ n ∧ o = .int .u64 (Pl.hv x (a.drop k) : Nat) ∧ wr = w.drewN j) (fun _ i _ => (intOf i + 1).toNat)
  case atStart => exact ⟨n, 0, rfl, Nat.le_refl _, by rw [HD0.out]; rfl, rfl⟩
  case round =>
    obtain ⟨k, j, rfl, hk, rfl, hwr⟩ := hrel
    have HW := Lib.hid hwr
    clear hwr
    cases k with
    | zero =>
      go_wp2
      go_ret
      exact ⟨rfl, by rw [HW.out]; exact below_drewN (Below.refl _ _) _⟩
    | succ i =>
      have e0 : ((i + 1 : Nat) : Int) - 1 = (i : Int) := by omega
      rw [e0]
      obtain ⟨b, off, e1, hbb, hcl⟩ := HA.out.num (k := i) (by rw [← HN.out]; omega)
      have hnx := hv_drop x a i (by rw [← HN.out]; omega)
      have hcl : wr.cell? ⟨b, off + i, none⟩ = some (.int .u64 ((a[i]?.getD 0 : Nat) : Int)) := by rw [HW.out]; exact hcl
      obtain ⟨y, hy⟩ : ∃ y, y = a[i]?.getD 0 := ⟨_, rfl⟩
      obtain ⟨o, ho⟩ : ∃ o, o = Pl.hv x (a.drop (i + 1)) := ⟨_, rfl⟩
      rw [← hy] at hcl hnx
      rw [← ho] at hnx ⊢
      have hq1 := fun W => rmul_quiet o x W
      obtain ⟨m, hm⟩ : ∃ m, m = Fld.mul o x := ⟨_, rfl⟩
      rw [← hm] at hq1 hnx
      have hq2 := quiet_same (radd_any m y)
      rw [← hnx] at hq2
      have q0 : (0 : Int) ≤ (i : Int) := by omega
      have q1 : (i : Int) < (n : Int) := by omega
      have HQ1 := Lib.hid hq1
      have HQ2 := Lib.hid hq2
      clear hy ho hm hnx hq1 hq2 e0
      subst e1
      go_wp2
      go_quiet ((first
        | (go_at_call 45; exact quiet_any HQ1.out)
        | (go_at_call 33; exact quiet_any HQ2.out)))
      go_wp2
      go_roundw
      case rel => exact ⟨i, _, rfl, by omega, rfl, by rw [HW.out, World.drewN_drewN]⟩
      case measure => simp [intOf]
end Go.Proofs.Ythnbkbmhlalpaaa

/-
  The reference's products of polynomials.
-/
namespace Go.Proofs.Ythnbkbmhlalpaaa
open Go.RowKit

/-- The sum of the first j products that stand at n together. -/
def sm (a b : List Nat) (n : Nat) : Nat → Nat
  | 0 => 0
  | j + 1 => Fld.add (sm a b n j) (Fld.mul (a[j]?.getD 0) (b[n - j]?.getD 0))
namespace Pl
theorem z1 (x : Fld.F) : 0 + x * 0 = 0 := by rw [Fin.mul_zero, Fin.add_zero]
theorem z2 (x : Fld.F) : 0 + 0 * x = 0 := by rw [Fin.zero_mul, Fin.add_zero]
def sumf (g : Nat → Fld.F) : Nat → Fld.F
  | 0 => 0
  | j + 1 => sumf g j + g j
theorem sumf_front (g : Nat → Fld.F) : ∀ j, sumf g (j + 1) = g 0 + sumf (fun i => g (i + 1)) j
  | 0 => by show 0 + g 0 = g 0 + 0; grind
  | j + 1 => by rw [sumf, sumf_front g j]; show _ = g 0 + (sumf (fun i => g (i + 1)) j + g (j + 1)); grind
theorem sumf_mul : ∀ (n : Nat) (s t : Pl), sumf (fun i => s i * t (n - i)) (n + 1) = (s * t) n
  | 0, s, t => by rw [sumf_front, mul_0]; show s 0 * t 0 + 0 = _; grind
  | n + 1, s, t => by
    rw [sumf_front, mul_s, ← sumf_mul n (tl s) t]
    show s 0 * t (n + 1) + sumf (fun i => s (i + 1) * t (n + 1 - (i + 1))) (n + 1) = s 0 * t (n + 1) + sumf (fun i => s (i + 1) * t (n - i)) (n + 1)
    congr 2
    funext i
    rw [show n + 1 - (i + 1) = n - i by omega]
theorem sm_sumf (a b : List Nat) (n : Nat) : ∀ j, Fld.to (sm a b n j) = sumf (fun i => co a i * co b (n - i)) j
  | 0 => rfl
  | j + 1 => by rw [sm, Fld.to_addF, Fld.to_mulF, sm_sumf a b n j]; rfl
theorem co_prod (a b : List Nat) (K : Nat) (hK : K = a.length + b.length - 1) : co (tab (fun n => sm a b n (n + 1)) K) = co a * co b := by
  refine co_tab_all ?_ fun i _ => by rw [sm_sumf]; exact sumf_mul i _ _
  rcases Nat.eq_zero_or_pos a.length with h | h
  · rw [List.eq_nil_of_length_eq_zero h, co_nil, zero_mul]; exact Lt.zero _
  · rcases Nat.eq_zero_or_pos b.length with h' | h'
    · rw [List.eq_nil_of_length_eq_zero h', co_nil, mul_zero]; exact Lt.zero _
    · obtain ⟨n, hn⟩ : ∃ n, a.length = n + 1 := ⟨a.length - 1, by omega⟩
      obtain ⟨m, hm⟩ : ∃ m, b.length = m + 1 := ⟨b.length - 1, by omega⟩
      intro i hi
      rw [← sumf_mul i]
      have h0 : ∀ j, sumf (fun x => co a x * co b (i - x)) j = 0 := by
        intro j
        induction j with
        | zero => rfl
        | succ j ih =>
          rw [sumf, ih]
          rcases Nat.lt_or_ge j (n + 1) with h1 | h1
          · rw [Lt.co b (i - j) (by omega)]; exact z1 _
          · rw [Lt.co a j (by omega)]; exact z2 _
      exact h0 _
end Pl

set_option maxRecDepth 100000 in
set_option maxHeartbeats 2000000 in
theorem rmul_poly (A A2 : Option Addr) (n ca m cb : Nat) (a b : List Nat) (w : World) (hn : n = a.length) (hm : m = b.length) (hn9 : n ≤ 100000) (hm9 : m ≤ 100000) (hA : Rd w.heap.size w A (u64s a)) (hA2 : Rd w.heap.size w A2 (u64s b)) :
    Calls Try.prog 48 #[.slice A n ca, .slice A2 m cb] w fun e w' => Poly w.heap.size (Pl.co a * Pl.co b) e w' ∧ Below w.heap.size w w' := by
  obtain ⟨K, hK⟩ : ∃ K, K = n + m - 1 := ⟨_, rfl⟩
  obtain ⟨f, hf⟩ : ∃ f : Nat → Nat, f = fun i => sm a b i (i + 1) := ⟨_, rfl⟩
  have hco : Pl.co (Pl.tab f K) = Pl.co a * Pl.co b := by rw [hf]; exact Pl.co_prod a b K (by omega)
  have hK9 : K ≤ 200000 := by omega
  have HCO := Lib.hid hco
  have HF := Lib.hid hf
  have HN := Lib.hid hn
  have HM := Lib.hid hm
  have HA := Lib.hid hA
  have HA2 := Lib.hid hA2
  have HK := Lib.hid hK
  have hg0 := Gl.nil w.heap.size w
  have hb0 : Below w.heap.size w w := Below.refl _ _
  clear hn hm hA hA2 hf hco hK
  go_enter Try.func48, Try.ntmps48
  go_wp2
  go_loopw [5, 6] (fun o i wr => ∃ k : Nat, i = .int .i64 (k : Int) ∧ k ≤ K ∧ Gl w.heap.size wr o (Pl.tab f k) ∧ Below w.heap.size w wr) (fun _ i _ => K - (intOf i).toNat)
  case atStart => exact ⟨0, rfl, Nat.zero_le _, hg0, hb0⟩
  case round =>
    obtain ⟨k, rfl, hk, hg, hb⟩ := hrel
    have HG := Lib.hid hg
    have hsz := hb.size
    clear hg hg0 hb0
    by_cases hlt : k < K
    · have h1 : k + 1 < n + m := by have := HK.out; omega
      have h1I : (k : Int) + 1 < (n : Int) + (m : Int) := by omega
      obtain ⟨wo, hwo⟩ : ∃ wo, wo = wr := ⟨_, rfl⟩
      rw [← hwo] at HG hb hsz ⊢
      clear hwo
      have hbo : Below wo.heap.size wo wo := Below.refl _ _
      go_wp2
      go_loopw [7, 8] (fun o i wr => ∃ j : Nat, i = .int .i64 (j : Int) ∧ j ≤ k + 1 ∧ o = .int .u64 (sm a b k j : Nat) ∧ Below wo.heap.size wo wr) (fun _ i _ => k + 1 - (intOf i).toNat)
      case atStart => exact ⟨0, rfl, Nat.zero_le _, rfl, hbo⟩
      case round =>
        obtain ⟨j, rfl, hj, rfl, hbj⟩ := hrel
        have hszj := hbj.size
        have hb2 := hb.trans (hbj.mono hsz)
        by_cases hlt2 : j ≤ k
        · obtain ⟨d, hd⟩ : ∃ d, d = k - j := ⟨_, rfl⟩
          have hdI : (k : Int) - (j : Int) = (d : Int) := by omega
          have hra := rat_any A n ca j a wr HN.out (HA.out.at_world hb2)
          have hrb := rat_any A2 m cb d b wr HM.out (HA2.out.at_world hb2)
          have hsm : sm a b k (j + 1) = Fld.add (sm a b k j) (Fld.mul (a[j]?.getD 0) (b[d]?.getD 0)) := by rw [hd]; rfl
          obtain ⟨x, hx⟩ : ∃ x, x = a[j]?.getD 0 := ⟨_, rfl⟩
          obtain ⟨y, hy⟩ : ∃ y, y = b[d]?.getD 0 := ⟨_, rfl⟩
          obtain ⟨s, hs⟩ : ∃ s, s = sm a b k j := ⟨_, rfl⟩
          rw [← hx] at hra hsm
          rw [← hy] at hrb hsm
          rw [← hs] at hsm ⊢
          have hrm := rmul_any x y wr
          have hrs := fun W => radd_any s (Fld.mul x y) W
          obtain ⟨z, hz⟩ : ∃ z, z = Fld.mul x y := ⟨_, rfl⟩
          rw [← hz] at hrm hrs hsm
          rw [← hsm] at hrs
          have HRA := Lib.hid hra
          have HRB := Lib.hid hrb
          have HRM := Lib.hid hrm
          have HRS := Lib.hid hrs
          clear hd hra hrb hsm hx hy hs hz hrm hrs
          go_wp2_with fail
          refine HRA.out.mono ?_
          rintro e w' ⟨rfl, rfl⟩
          go_wp2_with fail
          refine HRB.out.mono ?_
          rintro e w' ⟨rfl, rfl⟩
          go_wp2_with fail
          refine HRM.out.mono ?_
          rintro e w1 ⟨rfl, hb3⟩
          go_wp2_with fail
          refine (HRS.out _).mono ?_
          rintro e w' ⟨rfl, rfl⟩
          go_wp2
          go_roundw
          case rel => exact ⟨j + 1, by go_num, by omega, rfl, hbj.trans (hb3.mono hszj)⟩
          case measure => simp [intOf]; omega
        · obtain rfl : j = k + 1 := by omega
          have hgj := HG.out.below hbj
          have HGJ := Lib.hid hgj
          have hfk : sm a b k (k + 1) = f k := by rw [HF.out]
          have htk := Pl.tab_succ f k
          obtain ⟨z, hz⟩ : ∃ z, z = f k := ⟨_, rfl⟩
          rw [hfk, ← hz]
          rw [← hz] at htk
          have HTK := Lib.hid htk
          have HLEN := Lib.hid (show (Pl.tab f k).length ≤ 200000 by rw [Pl.tab_len]; omega)
          have hszw := hb2.size
          clear hgj hfk htk hz hj
          go_wp2_with (at_builtin; refine wpList_push64 rfl _ _ rfl w.heap.size z _ _ HGJ.out rfl rfl (Nat.le_trans HLEN.out (by omega)) hszw ?_; intro u w1 hz1 hb1; have HZ1 := Lib.hid hz1; clear hz1)
          go_roundw
          case rel => exact ⟨k + 1, by go_num, hlt, by rw [HTK.out]; exact HZ1.out, hb2.trans hb1⟩
          case measure => simp [intOf]; omega
    · have hkK : k = K := by omega
      subst hkK
      have h1 : ¬ k + 1 < n + m := by have := HK.out; omega
      have h1I : ¬ (k : Int) + 1 < (n : Int) + (m : Int) := by omega
      obtain ⟨A1, c1, rfl, hp1, hB1⟩ := HG.out.pt
      have hl := Pl.tab_len f k
      obtain ⟨L, hL⟩ : ∃ L, L = Pl.tab f k := ⟨_, rfl⟩
      have hco := HCO.out
      rw [← hL] at hp1 hl hco ⊢
      obtain ⟨nl, hnl⟩ : ∃ nl, nl = L.length := ⟨_, rfl⟩
      rw [← hnl] at hp1 hl ⊢
      have htr := rtrim_any A1 nl c1 L wr hnl (by omega) hp1.2.1
      rw [hco] at htr
      have HTR := Lib.hid htr
      clear hp1 hl hL hco hnl htr hB1 HG
      go_wp2_with fail
      refine HTR.out.mono ?_
      rintro e w' ⟨⟨A3, n3, c3, l3, rfl, hp3, hi3, hb3⟩, hb4⟩
      have H3 := Lib.hid (And.intro hp3 (And.intro hi3 hb3))
      clear hp3 hi3 hb3
      go_wp2
      go_ret
      exact ⟨⟨A3, n3, c3, l3, rfl, H3.out.1, H3.out.2.1, fun bl off e => Nat.le_trans hsz (H3.out.2.2 bl off e)⟩, hb.trans (hb4.mono hsz)⟩
end Go.Proofs.Ythnbkbmhlalpaaa

/-
  The statements' helpers: whether numbers are the same; the first numbers of a list.
-/
namespace Go.Proofs.Ythnbkbmhlalpaaa
open Go.RowKit

set_option maxHeartbeats 800000 in
theorem nums_any (l : List Nat) (A : Option Addr) (n c most : Nat) (w : World) (hn : n = l.length) (hnc : n ≤ c) (hmost : most ≤ 1000) (hA : Rd w.heap.size w A (u64s l)) (hnil : A = none → c = 0) :
    Calls Try.prog 10 #[.slice A n c, .int .i64 (most : Int)] w fun e w' => ∃ A' c', e = .returned (.slice A' (min n most) c') ∧
      w'.ownsRow w.heap.size 22 1 (.slice A' (min n most) c') (min n most) (u64s (l.take most)) ∧ Below w.heap.size w w' := by
  obtain ⟨i0, hi, hz0, hz1, hz2⟩ := info_parts info_u64
  obtain ⟨k, hk⟩ : ∃ k, k = min n most := ⟨_, rfl⟩
  have hif : (if most < n then (most : Int) else (n : Int)) = (k : Int) := by rw [hk]; split <;> omega
  have hkc : k ≤ c := by omega
  have hk6 : k ≤ 1000 := by omega
  have hsl := slice_head 23 (by kernel_rfl) (fun W => by kernel_rfl) A n c k hkc
  have hlen : (u64s (l.take most)).length = k * 1 := by rw [u64s_len, List.length_take]; omega
  have htk : l.take most = l.take k := by
    rw [hk]
    rcases Nat.le_total n most with h | h
    · rw [List.take_of_length_le (by omega), List.take_of_length_le (by omega)]
    · rw [show min n most = most by omega]
  rw [htk] at hlen
  rw [htk, ← hk]
  have hcell1 : ∀ u ∈ u64s (l.take k), u.oneCell' = true := by
    intro u hu
    obtain ⟨x, _, rfl⟩ := List.mem_map.1 hu
    rfl
  have hnilrow := World.ownsRow_nil w w.heap.size 22 1
  rcases A with _ | ad
  · have h0 := hnil rfl
    obtain rfl : c = 0 := h0
    have hk0 : k = 0 := by omega
    subst hk0
    have HL := Lib.hid hlen
    have HI := Lib.hid hi
    have HN := Lib.hid hnilrow
    clear hlen hi hz0 hz1 hz2 hcell1 hn hk htk hA hnil hnilrow
    go_enter Try.func10, Try.ntmps10
    go_wp2_with (at_builtin; refine wpList_append_own_none rfl _ _ 23 rfl w.heap.size 22 i0 _ Try.underlying23 HI.out _ 0 [] rfl HN.out rfl ?_)
    go_ret
    refine ⟨none, 0, rfl, ?_, Below.refl _ _⟩
    have e : u64s (l.take 0) = [] := rfl
    rw [e]
    exact HN.out
  · have hsrc : ∀ j u, (u64s (l.take k))[j]? = some u → w.cell? (ad.add j) = some u := by
      rcases Nat.eq_zero_or_pos n with h0 | h0
      · have e : l = [] := List.eq_nil_of_length_eq_zero (by omega)
        subst e
        intro j u hu
        simp [u64s] at hu
      · obtain ⟨b, off, e, _, hc⟩ := hA (by rw [u64s_len]; omega)
        injection e with e
        subst e
        exact nums_src l b off w k hc
    have HL := Lib.hid hlen
    have HI := Lib.hid hi
    have HZ0 := Lib.hid hz0
    have HZ1 := Lib.hid hz1
    have HZ2 := Lib.hid hz2
    have HS := Lib.hid hsrc
    have HC := Lib.hid hcell1
    have HN := Lib.hid hnilrow
    clear hlen hi hz0 hz1 hz2 hsrc hcell1 hn hk htk hA hnil hnilrow
    go_enter Try.func10, Try.ntmps10
    go_wp2_with (at_builtin; refine wpList_append_own _ rfl _ _ 23 rfl w.heap.size 22 i0 (.int .u64 0) 1 8 Try.underlying23 HI.out HZ0.out HZ1.out HZ2.out rfl (by decide) _ 0 [] rfl HN.out ad k c (u64s (l.take k)) rfl HL.out HS.out HC.out (by unfold maxLen; omega) (by omega) (Nat.le_refl _) ?_; intro v' w1 hown' hgrow _; have HO := Lib.hid hown'; clear hown')
    go_ret
    have ho := HO.out
    rw [List.nil_append, Nat.zero_add] at ho
    obtain ⟨A', c', rfl⟩ : ∃ A' c', v' = .slice A' k c' := by
      rcases ho.2 with ⟨rfl, h0⟩ | ⟨g, cp, _, rfl, _⟩
      · exact ⟨none, 0, by rw [h0]⟩
      · exact ⟨_, cp, rfl⟩
    exact ⟨A', c', rfl, ho, (Below.refl _ w).grown hgrow (Nat.le_refl _) (fun j e => by cases e)⟩

theorem nums_gl (l : List Nat) (A : Option Addr) (n c most : Nat) (w : World) (hn : n = l.length) (hnc : n ≤ c) (hmost : most ≤ 1000) (hA : Rd w.heap.size w A (u64s l)) (hnil : A = none → c = 0) :
    Calls Try.prog 10 #[.slice A n c, .int .i64 (most : Int)] w fun e w' => (∃ o, e = .returned o ∧ Gl w.heap.size w' o (l.take most)) ∧ Below w.heap.size w w' :=
  (nums_any l A n c most w hn hnc hmost hA hnil).mono fun e w' ⟨A', c', e1, h1, h2⟩ => ⟨⟨_, e1, A', c', by rw [List.length_take, Nat.min_comm, ← hn], by rw [List.length_take, Nat.min_comm, ← hn]; exact h1⟩, h2⟩
end Go.Proofs.Ythnbkbmhlalpaaa

/-
  The document's example: (x - 1)(x - 2), its roots, what has 5 at 0 and 7 at 1, and the value at 5.
-/
namespace Go.Proofs.Ythnbkbmhlalpaaa
open Go.RowKit

/-! ### lists that rise -/
theorem rise_uniq : ∀ (a b : List Nat), a.Pairwise (· < ·) → b.Pairwise (· < ·) → (∀ x, x ∈ a ↔ x ∈ b) → a = b
  | [], [], _, _, _ => rfl
  | [], y :: b, _, _, h => absurd ((h y).2 List.mem_cons_self) List.not_mem_nil
  | x :: a, [], _, _, h => absurd ((h x).1 List.mem_cons_self) List.not_mem_nil
  | x :: a, y :: b, ha, hb, h => by
    have ha' := List.pairwise_cons.1 ha
    have hb' := List.pairwise_cons.1 hb
    have hxy : x = y := by
      rcases List.mem_cons.1 ((h x).1 List.mem_cons_self) with e | e
      · exact e
      · rcases List.mem_cons.1 ((h y).2 List.mem_cons_self) with e' | e'
        · exact e'.symm
        · have := hb'.1 x e
          have := ha'.1 y e'
          omega
    subst hxy
    rw [rise_uniq a b ha'.2 hb'.2 fun z => ?_]
    constructor
    · intro hz
      rcases List.mem_cons.1 ((h z).1 (List.mem_cons_of_mem _ hz)) with e | e
      · have := ha'.1 z hz; omega
      · exact e
    · intro hz
      rcases List.mem_cons.1 ((h z).2 (List.mem_cons_of_mem _ hz)) with e | e
      · have := hb'.1 z hz; omega
      · exact e
theorem Up.rise {l : List Nat} (h : Up l) (hn : l.Nodup) : l.Pairwise (· < ·) :=
  (List.Pairwise.and h hn).imp fun ⟨h1, h2⟩ => Nat.lt_of_le_of_ne h1 h2
theorem rof_uniq {f : Pl} {a b : List Nat} (ha : Pl.Rof f a) (hua : Up a) (hb : Pl.Rof f b) (hub : Up b) : a = b :=
  rise_uniq a b (hua.rise ha.2.1) (hub.rise hb.2.1) fun x => by
    constructor
    · intro hx; exact (hb.2.2 x (ha.1 x hx)).2 ((ha.2.2 x (ha.1 x hx)).1 hx)
    · intro hx; exact (ha.2.2 x (hb.1 x hx)).2 ((hb.2.2 x (hb.1 x hx)).1 hx)

/-- The example's polynomial. -/
def LvL : List Nat := [2, 2305843009213693948, 1]
theorem LvL_tr : Pl.Tr LvL := ⟨by intro x hx; simp [LvL] at hx; omega, .inr (by decide)⟩
theorem LvL_co : Pl.co LvL = Pl.prodR [1, 2] := by
  have h := Pl.co_prod [Fld.sub 0 1, 1] [Fld.sub 0 2, 1] 3 rfl
  rw [Pl.co_root, Pl.co_root] at h
  show Pl.co LvL = Pl.lin (Fld.to 1) * (Pl.lin (Fld.to 2) * Pl.C 1)
  rw [Pl.mul_one, ← h]
  congr 1
theorem lv_rof : Pl.Rof (Pl.co LvL) [1, 2] := by
  refine ⟨by intro x hx; simp at hx; omega, by decide, fun x hx => ?_⟩
  rw [LvL_co]
  show _ ↔ Pl.val (Pl.lin (Fld.to 1) * (Pl.lin (Fld.to 2) * Pl.C 1)) (Fld.to x) = 0
  rw [Pl.mul_one, Pl.val_mul (Pl.Po.lin _) (Pl.Po.lin _), Pl.val_lin, Pl.val_lin, Fld.mul_eq_zero]
  have key : ∀ c, c < 2305843009213693951 → (Fld.to x - Fld.to c = 0 ↔ x = c) := fun c hc => by
    constructor
    · intro h; exact Pl.to_inj' hx hc (by grind)
    · intro h; rw [h]; grind
  rw [key 1 (by omega), key 2 (by omega)]
  simp
theorem lv_fi : Pl.Fi [0, 1] [5, 7] 2 (Pl.co [5, 2]) := by
  refine ⟨Pl.Lt.co [5, 2], fun j hj => ?_⟩
  match j, hj with
  | 0, _ => show Pl.val (Pl.co [5, 2]) (Fld.to 0) = Fld.to 5; rw [← Pl.hv_val]; congr 1
  | 1, _ => show Pl.val (Pl.co [5, 2]) (Fld.to 1) = Fld.to 7; rw [← Pl.hv_val]; congr 1
theorem lv_dis : Pl.Dis [0, 1] 2 := by
  intro i j hi hj
  obtain rfl : j = 1 := by omega
  obtain rfl : i = 0 := by omega
  show Fld.to 0 ≠ Fld.to 1
  intro h
  exact absurd (Pl.to_inj' (by omega) (by omega) h) (by omega)
theorem lv_ev : Pl.hv 5 LvL = 12 := by decide +kernel

theorem rd_news (w : World) (l : List Nat) : Rd (w.alloc (.cells (u64s l).toArray 22)).heap.size (w.alloc (.cells (u64s l).toArray 22)) (some ⟨w.heap.size, 0, none⟩) (u64s l) := Rd.of_blk (blk_new w 22 _)

theorem lv_of (w : World) : Calls Try.prog 35 #[.slice (some ⟨w.heap.size, 0, none⟩) 2 2] (w.alloc (.cells #[.int .u64 1, .int .u64 2] 22)) fun e w' => (∃ A c, e = .returned (.slice A 3 c) ∧ Pt w' A 3 c LvL) ∧ Below w.heap.size w w' := by
  have hb0 : Below w.heap.size w (w.alloc (.cells #[.int .u64 1, .int .u64 2] 22)) := (Below.refl _ w).alloc (Nat.le_refl _) _
  refine (of_poly (some ⟨w.heap.size, 0, none⟩) 2 2 [1, 2] _ (by omega) rfl (by intro y hy; simp at hy; omega) (rd_news w [1, 2])).mono ?_
  rintro e w' ⟨⟨g, L, rfl, h1, h2, h3, h4, h5⟩, hb⟩
  have hL : L = LvL := by
    refine Pl.co_inj ⟨h4, .inr ?_⟩ LvL_tr (h5.trans LvL_co.symm)
    intro h0
    have h6 : Pl.co L 2 = Pl.co LvL 2 := by rw [h5, LvL_co]
    rw [Pl.co_at, Pl.co_at, show L[2]?.getD 0 = 0 by rw [h3] at h0; exact h0] at h6
    exact absurd (Pl.to_inj' (by omega) (by decide) h6) (by decide)
  subst hL
  exact ⟨⟨_, 3, rfl, rfl, h2.rd h2.lt, Nat.le_refl _, fun e => by cases e⟩, hb0.trans (hb.mono hb0.size)⟩
theorem lv_from (w : World) (A A2 : Option Addr) (h1 : Rd w.heap.size w A (u64s [0, 1])) (h2 : Rd w.heap.size w A2 (u64s [5, 7])) : Calls Try.prog 23 #[.slice A 2 2, .slice A2 2 2] w fun e w' => (∃ A c, e = .returned (.slice A 2 c) ∧ Pt w' A 2 c [5, 2]) ∧ Below w.heap.size w w' := by
  refine (from_same A A2 2 2 2 [0, 1] [5, 7] w rfl rfl (by omega) (by intro y hy; simp at hy; omega) (by intro y hy; simp at hy; omega) h1 h2).mono ?_
  rintro e w' ⟨⟨h3, _⟩, hb⟩
  obtain ⟨s, ⟨A, n, c, l, rfl, hp, hi, _⟩, hfi⟩ := h3 lv_dis
  have hs := hfi.uniq lv_dis lv_fi
  subst hs
  have hl : l = [5, 2] := Pl.co_inj hi.1 ⟨by intro x hx; simp at hx; omega, .inr (by decide)⟩ hi.2
  subst hl
  have hn : n = 2 := hp.1
  subst hn
  exact ⟨⟨A, c, rfl, hp⟩, hb⟩
theorem lv_eval (w : World) (A : Option Addr) (c : Nat) (h : Pt w A 3 c LvL) : Calls Try.prog 25 #[.slice A 3 c, .int .u64 5] w fun e w' => e = .returned (.int .u64 12) ∧ Below w.heap.size w w' := by
  have h1 := eval_poly A 3 c 5 LvL w (by omega) (by omega) h.1 LvL_tr.1.big h.2.1
  rw [lv_ev] at h1
  exact h1

theorem below_new {w1 w2 : World} {o : Obj} (h : Below (w1.alloc o).heap.size (w1.alloc o) w2) : Below w1.heap.size w1 w2 := ((Below.refl _ w1).alloc (Nat.le_refl _) _).trans (h.mono (by simp))
theorem Pt.new {w : World} {A : Option Addr} {n c : Nat} {l : List Nat} (h : Pt w A n c l) (o : Obj) : Pt (w.alloc o) A n c l := h.below ((Below.refl _ w).alloc (Nat.le_refl _) _)

end Go.Proofs.Ythnbkbmhlalpaaa

/-
  Values that are polynomials, and what each call tells of them: the program's calls and the reference's.
-/
namespace Go.Proofs.Ythnbkbmhlalpaaa
open Go.RowKit

/-- A slice of up to d numbers of 64 bits that says s. -/
def Qv (w : World) (o : Value) (s : Pl) (d : Nat) : Prop := ∃ A n c l, o = .slice A n c ∧ Pt w A n c l ∧ (∀ y ∈ l, y < 18446744073709551616) ∧ n ≤ d ∧ Pl.co l = s
/-- The same, trimmed. -/
def Tv (w : World) (o : Value) (s : Pl) (d : Nat) : Prop := ∃ A n c l, o = .slice A n c ∧ Pt w A n c l ∧ Pl.Is l s ∧ n ≤ d
theorem Qv.below {w w' : World} {o : Value} {s : Pl} {d : Nat} (h : Qv w o s d) (hb : Below w.heap.size w w') : Qv w' o s d := by
  obtain ⟨A, n, c, l, e, h1, h2⟩ := h
  exact ⟨A, n, c, l, e, h1.below hb, h2⟩
theorem Tv.below {w w' : World} {o : Value} {s : Pl} {d : Nat} (h : Tv w o s d) (hb : Below w.heap.size w w') : Tv w' o s d := by
  obtain ⟨A, n, c, l, e, h1, h2⟩ := h
  exact ⟨A, n, c, l, e, h1.below hb, h2⟩
theorem Qv.new {w : World} {o : Value} {s : Pl} {d : Nat} (h : Qv w o s d) (x : Obj) : Qv (w.alloc x) o s d := h.below ((Below.refl _ w).alloc (Nat.le_refl _) _)
theorem Tv.new {w : World} {o : Value} {s : Pl} {d : Nat} (h : Tv w o s d) (x : Obj) : Tv (w.alloc x) o s d := h.below ((Below.refl _ w).alloc (Nat.le_refl _) _)
theorem Tv.q {w : World} {o : Value} {s : Pl} {d : Nat} (h : Tv w o s d) : Qv w o s d := by
  obtain ⟨A, n, c, l, e, h1, h2, h3⟩ := h
  exact ⟨A, n, c, l, e, h1, h2.1.1.big, h3, h2.2⟩
theorem Qv.po {w : World} {o : Value} {s : Pl} {d : Nat} (h : Qv w o s d) : Pl.Po s := by
  obtain ⟨A, n, c, l, e, h1, h2, h3, h4⟩ := h
  exact h4 ▸ Pl.Po.co l
theorem Qv.lt {w : World} {o : Value} {s : Pl} {d : Nat} (h : Qv w o s d) : Pl.Lt s d := by
  obtain ⟨A, n, c, l, e, h1, h2, h3, h4⟩ := h
  exact h4 ▸ (Pl.Lt.co l).mono (by have := h1.1; omega)
theorem Tv.to {w : World} {o : Value} {s t : Pl} {d : Nat} (h : Tv w o s d) (e : s = t) : Tv w o t d := e ▸ h
theorem Tv.less {w : World} {o : Value} {s : Pl} {d k : Nat} (h : Tv w o s d) (hl : Pl.Lt s k) : Tv w o s k := by
  obtain ⟨A, n, c, l, e, h1, h2, h3⟩ := h
  exact ⟨A, n, c, l, e, h1, h2, by have := h2.1.len (h2.2.symm ▸ hl); have := h1.1; omega⟩
theorem Tv.mk {lo : Nat} {s : Pl} {e : Ending} {w' : World} {d : Nat} (h : Poly lo s e w') (hl : Pl.Lt s d) : ∃ z, e = .returned z ∧ Tv w' z s d := by
  obtain ⟨A, n, c, l, e, h1, h2, _⟩ := h
  exact ⟨_, e, A, n, c, l, rfl, h1, h2, by have := h2.1.len (h2.2.symm ▸ hl); have := h1.1; omega⟩
theorem Qv.nil (w : World) (d : Nat) : Qv w (.slice none 0 0) 0 d := ⟨none, 0, 0, [], rfl, Pt.nil w, (by intro y hy; cases hy), Nat.zero_le _, Pl.co_nil⟩
theorem Tv.nil (w : World) (d : Nat) : Tv w (.slice none 0 0) 0 d := ⟨none, 0, 0, [], rfl, Pt.nil w, ⟨Pl.Tr.nil, Pl.co_nil⟩, Nat.zero_le _⟩
/-- What is told of a polynomial's length. -/
theorem Tv.open_ {w : World} {o : Value} {s : Pl} {d : Nat} (h : Tv w o s d) : ∃ A n c, o = .slice A n c ∧ n ≤ d ∧ (n = 0 ↔ s = 0) ∧ ∀ k, Pl.Dg s k → n = k + 1 := by
  obtain ⟨A, n, c, l, e, h1, h2, h3⟩ := h
  refine ⟨A, n, c, e, h3, ?_, fun k hk => ?_⟩
  · rw [h1.1, h2.1.len_zero, h2.2]
  · rw [h1.1]; exact len_of_dg h2.1 (h2.2.symm ▸ hk)

/-- The value, as a number. -/
noncomputable def vl (s : Pl) (x : Nat) : Nat := (Pl.val s (Fld.to x)).val
theorem vl_lt (s : Pl) (x : Nat) : vl s x < 2305843009213693951 := (Pl.val s (Fld.to x)).isLt
theorem to_vl (s : Pl) (x : Nat) : Fld.to (vl s x) = Pl.val s (Fld.to x) := Fld.to_self _
theorem hv_vl (x : Nat) (l : List Nat) : Pl.hv x l = vl (Pl.co l) x := Fld.to_inj (Pl.hv_lt x l) (vl_lt _ _) (by rw [to_vl, Pl.hv_val])
theorem vl_zero (s : Pl) (x : Nat) : vl s x = 0 ↔ Pl.val s (Fld.to x) = 0 := by rw [← Pl.to_eq_zero (vl_lt s x), to_vl]

section
variable {w : World} {o o2 : Value} {s t : Pl} {d k : Nat}
theorem rtrim_v (h : Qv w o s d) (hd : d ≤ 100000) : Calls Try.prog 57 #[o] w fun e w' => (∃ z, e = .returned z ∧ Tv w' z s d) ∧ Below w.heap.size w w' := by
  have hl := h.lt
  obtain ⟨A, n, c, l, rfl, h1, h2, h3, rfl⟩ := h
  exact (rtrim_any A n c l w h1.1 (by omega) h1.2.1).mono fun e w' ⟨g, b⟩ => ⟨Tv.mk g hl, b⟩
theorem radd_v (h : Qv w o s d) (h' : Qv w o2 t k) (hd : d ≤ 100000) (hk : k ≤ 100000) : Calls Try.prog 50 #[o, o2] w fun e w' => (∃ z, e = .returned z ∧ Tv w' z (s + t) (max d k)) ∧ Below w.heap.size w w' := by
  have hl := (h.lt.mono (Nat.le_max_left d k)).add (h'.lt.mono (Nat.le_max_right d k))
  obtain ⟨A, n, c, l, rfl, h1, h2, h3, rfl⟩ := h
  obtain ⟨A', n', c', l', rfl, h1', h2', h3', rfl⟩ := h'
  exact (radd_poly A A' n c n' c' l l' w h1.1 h1'.1 (by omega) (by omega) h1.2.1 h1'.2.1).mono fun e w' ⟨g, b⟩ => ⟨Tv.mk g hl, b⟩
theorem rmul_v (h : Qv w o s d) (h' : Qv w o2 t k) (hd : d ≤ 100000) (hk : k ≤ 100000) : Calls Try.prog 48 #[o, o2] w fun e w' => (∃ z, e = .returned z ∧ Tv w' z (s * t) (d + k)) ∧ Below w.heap.size w w' := by
  have hl := h.lt.mul h'.lt
  obtain ⟨A, n, c, l, rfl, h1, h2, h3, rfl⟩ := h
  obtain ⟨A', n', c', l', rfl, h1', h2', h3', rfl⟩ := h'
  exact (rmul_poly A A' n c n' c' l l' w h1.1 h1'.1 (by omega) (by omega) h1.2.1 h1'.2.1).mono fun e w' ⟨g, b⟩ => ⟨Tv.mk g hl, b⟩
theorem eval_v (h : Qv w o s d) (hd : d ≤ 100000) (x : Nat) (hx : x < 18446744073709551616) : Calls Try.prog 25 #[o, .int .u64 (x : Int)] w fun e w' => e = .returned (.int .u64 ((vl s x : Nat) : Int)) ∧ Below w.heap.size w w' := by
  obtain ⟨A, n, c, l, rfl, h1, h2, h3, rfl⟩ := h
  have h := eval_poly A n c x l w (by omega) hx h1.1 h2 h1.2.1
  rwa [hv_vl] at h
theorem reval_v (h : Qv w o s d) (hd : d ≤ 100000) (x : Nat) : Calls Try.prog 27 #[o, .int .u64 (x : Int)] w fun e w' => e = .returned (.int .u64 ((vl s x : Nat) : Int)) ∧ Below w.heap.size w w' := by
  obtain ⟨A, n, c, l, rfl, h1, h2, h3, rfl⟩ := h
  have h := reval_any A n c x l w h1.1 (by omega) h1.2.1
  rwa [hv_vl] at h
theorem dm_lt {q r : Pl} (h : Pl.DM s t q r) (ht : Pl.Po t) (h0 : t ≠ 0) (hs : Pl.Lt s d) : Pl.Lt q d ∧ Pl.Lt r d := by
  obtain ⟨hq, hr, e, hd⟩ := h
  obtain ⟨k, hk⟩ := ht.dg h0
  have hr1 := hd k hk
  by_cases q0 : q = 0
  · subst q0
    rw [Pl.zero_mul, Pl.zero_add] at e
    exact ⟨Pl.Lt.zero d, e ▸ hs⟩
  · obtain ⟨m, hm⟩ := hq.dg q0
    have h1 := hm.mul hk
    have h2 : s (m + k) ≠ 0 := by
      rw [e, Pl.add_at, hr1 (m + k) (by omega)]
      intro h3
      exact h1.1 (by rw [← h3]; grind)
    have h3 : m + k < d := Nat.lt_of_not_le fun h4 => h2 (hs _ h4)
    exact ⟨hm.2.mono (by omega), hr1.mono (by omega)⟩
theorem Pl.Gc.zeros {g : Pl} (h : Pl.Gc 0 0 g) : g = 0 := ((h.2.1 0 Pl.Po.zero).2 ⟨Pl.Dv.zero 0, Pl.Dv.zero 0⟩).zero_left
theorem Pl.Dv.lt {a g : Pl} (hg : Pl.Po g) (h : Pl.Dv g a) (h0 : a ≠ 0) (hl : Pl.Lt a d) : Pl.Lt g d := by
  by_cases g0 : g = 0
  · rw [g0]; exact Pl.Lt.zero d
  · obtain ⟨m, hm⟩ := hg.dg g0
    obtain ⟨n, hnd, hn⟩ := Pl.dg_of d a hl h0
    exact hm.2.mono (by have := h.dg hm hn; omega)
theorem gcd_lt {g : Pl} (h : Pl.Gc s t g) (hs : Pl.Lt s d) (ht : Pl.Lt t k) : Pl.Lt g (max d k) := by
  by_cases h0 : s = 0
  · by_cases h1 : t = 0
    · subst h0 h1; rw [h.zeros]; exact Pl.Lt.zero _
    · exact (h.right.lt h.1 h1 ht).mono (Nat.le_max_right d k)
  · exact (h.left.lt h.1 h0 hs).mono (Nat.le_max_left d k)
end

/-- A list of numbers of 64 bits that came in. -/
def In (w : World) (A : Option Addr) (n c : Nat) (l : List Nat) : Prop := n = l.length ∧ n ≤ c ∧ (∀ x ∈ l, x < 18446744073709551616) ∧ Rd w.heap.size w A (u64s l) ∧ (A = none → c = 0)
theorem In.below {w w' : World} {A : Option Addr} {n c : Nat} {l : List Nat} (h : In w A n c l) (hb : Below w.heap.size w w') : In w' A n c l := ⟨h.1, h.2.1, h.2.2.1, (h.2.2.2.1.below hb).more hb.size, h.2.2.2.2⟩
theorem nums_v {w : World} {A : Option Addr} {n c : Nat} {l : List Nat} (h : In w A n c l) (m : Nat) (hm : m ≤ 1000) :
    Calls Try.prog 10 #[.slice A n c, .int .i64 (m : Int)] w fun e w' => (∃ z, e = .returned z ∧ Qv w' z (Pl.co (l.take m)) m) ∧ Below w.heap.size w w' := by
  refine (nums_gl l A n c m w h.1 h.2.1 hm h.2.2.2.1 h.2.2.2.2).mono ?_
  rintro e w' ⟨⟨z, rfl, hz⟩, hb⟩
  obtain ⟨A', c', rfl, hp, _⟩ := hz.pt
  exact ⟨⟨_, rfl, A', _, c', _, rfl, hp, fun y hy => h.2.2.1 y (List.mem_of_mem_take hy), by rw [List.length_take]; exact Nat.min_le_left _ _, rfl⟩, hb⟩
end Go.Proofs.Ythnbkbmhlalpaaa

/-
  The reference's division of polynomials, its Gcd, its products of x less each root, and its interpolation (Lagrange's).
-/
namespace Go.Proofs.Ythnbkbmhlalpaaa
open Go.RowKit

/-- A number of what is left of one step. -/
def nx (l b : List Nat) (k c i : Nat) : Nat := if k ≤ i then Fld.sub (l[i]?.getD 0) (Fld.mul c (b[i - k]?.getD 0)) else l[i]?.getD 0
namespace Pl
theorem z3 (x : Fld.F) : 0 - x * 0 = 0 := by rw [Fin.mul_zero]; exact Fld.sub_zero 0
theorem nx_co {l b : List Nat} {n dg k c j : Nat} (hl : l.length = n) (hb : b.length = dg + 1) (hn : n = k + dg + 1) (hj : n = j + 1) (hc : Fld.to c * co b dg = co l j) :
    co (tab (nx l b k c) j) = co l - C (Fld.to c) * shn k (co b) := by
  refine co_tab_all (fun i hi => ?_) fun i hi => ?_
  · rw [sub_at, C_mul_at, shn_at]
    rcases Nat.lt_or_ge i n with h1 | h1
    · obtain rfl : i = j := by omega
      rw [if_pos (by omega), show i - k = dg by omega, hc]
      exact Fin.sub_self
    · rw [Lt.co l i (by omega)]
      by_cases h2 : k ≤ i
      · rw [if_pos h2, Lt.co b (i - k) (by omega)]; exact z3 _
      · omega
  · unfold nx
    rw [sub_at, C_mul_at, shn_at]
    by_cases h2 : k ≤ i
    · rw [if_pos h2, if_pos h2, Fld.to_subF, Fld.to_mulF]; rfl
    · rw [if_neg h2, if_neg h2, co_at]; grind
theorem quo_step {A0 B S Q : Pl} {k : Nat} {c : Fld.F} (h : A0 = Q * B + S) : A0 = (Q + C c * shn k (C 1)) * B + (S - C c * shn k B) := by
  rw [add_mul, mul_assoc, shn_mul, one_mul, h]
  exact ext fun n => by simp only [add_at, sub_at]; grind
theorem co_put {L : List Nat} {k c : Nat} (hk : k < L.length) (h0 : co L k = 0) : co (L.set k c) = co L + C (Fld.to c) * shn k (C 1) := ext fun n => by
  rw [co_set hk, add_at, C_mul_at, shn_at]
  by_cases h : n = k
  · subst h
    rw [if_pos rfl, if_pos (Nat.le_refl _), Nat.sub_self, h0, C_0]; grind
  · rw [if_neg h]
    by_cases h2 : k ≤ n
    · rw [if_pos h2]
      obtain ⟨j, hj⟩ : ∃ j, n - k = j + 1 := ⟨n - k - 1, by omega⟩
      rw [hj, C_s]; grind
    · rw [if_neg h2]; grind
end Pl

theorem Rq.below {g : Nat} {w w' : World} {A : Option Addr} {vs : List Value} (h : Rq g w A vs) (hb : Below w.heap.size w w') : Rq g w' A vs := h.grown (below_grown hb _)
theorem Rq.num {g : Nat} {w : World} {A : Option Addr} {l : List Nat} (h : Rq g w A (u64s l)) {k : Nat} (hk : k < l.length) : ∃ b off, A = some ⟨b, off, none⟩ ∧ b ≠ g ∧ b < w.heap.size ∧ w.cell? ⟨b, off + k, none⟩ = some (.int .u64 ((l[k]?.getD 0 : Nat) : Int)) := by
  obtain ⟨b, off, e, hne, hb, hc⟩ := h (by rw [u64s_len]; omega)
  exact ⟨b, off, e, hne, hb, hc k _ (u64s_at hk)⟩
theorem Rq.rd {g : Nat} {w : World} {A : Option Addr} {vs : List Value} (h : Rq g w A vs) : Rd w.heap.size w A vs := fun hp => by
  obtain ⟨b, off, e, _, h1, h2⟩ := h hp
  exact ⟨b, off, e, h1, h2⟩

/-- What the reference's DivMod keeps. -/
def RdmAt (w wr : World) (gq N m : Nat) (Ab : Option Addr) (bl : List Nat) (A0 B : Pl) (n0 n : Nat) (lf : Value) : Prop :=
  ∃ A c l S Q Lq, lf = .slice A n c ∧ n = l.length ∧ n ≤ c ∧ (A = none → c = 0) ∧ n ≤ n0 ∧ Pl.Is l S ∧ Rq gq wr A (u64s l) ∧ Ar wr gq Lq ∧ Lq.length = N ∧ Pl.Sm Lq ∧ Pl.co Lq = Q ∧ A0 = Q * B + S ∧ (∀ i, i + m ≤ n → Pl.co Lq i = 0) ∧
    Rq gq wr Ab (u64s bl) ∧ w.heap.size ≤ gq ∧ Below w.heap.size w wr

/-- What the reference's DivMod tells. -/
def RdT (s t : Pl) (d : Nat) (e : Ending) (w' : World) : Prop := (t = 0 → e = .returned (.tuple #[.slice none 0 0, .slice none 0 0])) ∧ (t ≠ 0 → ∃ z z2 q r, e = .returned (.tuple #[z, z2]) ∧ Tv w' z q d ∧ Tv w' z2 r d ∧ Pl.DM s t q r)

end Go.Proofs.Ythnbkbmhlalpaaa

namespace Go.Proofs.Ythnbkbmhlalpaaa
open Go.RowKit

/-- What the reference's Gcd keeps. -/
def RgAt (w wr : World) (A B : Pl) (d ny : Nat) (a b : Value) : Prop := ∃ X Y, Tv wr a X d ∧ Tv wr b Y d ∧ (∃ P c, b = .slice P ny c) ∧ (∀ D, Pl.Po D → ((Pl.Dv D X ∧ Pl.Dv D Y) ↔ (Pl.Dv D A ∧ Pl.Dv D B))) ∧ Below w.heap.size w wr
theorem Tv.wide {w : World} {o : Value} {s : Pl} {d k : Nat} (h : Tv w o s d) (hk : d ≤ k) : Tv w o s k := by
  obtain ⟨A, n, c, l, e, h1, h2, h3⟩ := h
  exact ⟨A, n, c, l, e, h1, h2, by omega⟩

/-- The product of x less each root, from the first on. -/
def Pl.prodL (l : List Nat) (k : Nat) : Pl := match k with
  | 0 => Pl.C 1
  | k + 1 => Pl.prodL l k * Pl.lin (Pl.co l k)
theorem Pl.prodR_take (l : List Nat) : ∀ k, k ≤ l.length → Pl.prodR (l.take k) = Pl.prodL l k
  | 0, _ => rfl
  | k + 1, h => by
    rw [take_next (by omega), Pl.prodL, ← Pl.prodR_take l k (by omega)]
    have hs : ∀ (a : List Nat) (x : Nat), Pl.prodR (a ++ [x]) = Pl.prodR a * Pl.lin (Fld.to x) := by
      intro a x
      induction a with
      | nil => show Pl.lin (Fld.to x) * Pl.C 1 = Pl.C 1 * Pl.lin (Fld.to x); rw [Pl.mul_comm]
      | cons y a ih => show Pl.lin (Fld.to y) * Pl.prodR (a ++ [x]) = Pl.lin (Fld.to y) * Pl.prodR a * Pl.lin (Fld.to x); rw [ih, Pl.mul_assoc]
    rw [hs]
    rfl
theorem Pl.Dg.prodR : ∀ l : List Nat, Pl.Dg (Pl.prodR l) l.length ∧ Pl.prodR l l.length = 1
  | [] => ⟨⟨Fld.one_ne, Pl.Lt.C 1⟩, rfl⟩
  | r :: l => by
    have h := Pl.Dg.prodR l
    have hd := (Pl.Dg.lin (Fld.to r)).mul h.1
    rw [Nat.add_comm] at hd
    refine ⟨hd, ?_⟩
    have ht := Pl.top_mul (Pl.Dg.lin (Fld.to r)).2 h.1.2
    rw [h.2, Nat.add_comm] at ht
    show (Pl.lin (Fld.to r) * Pl.prodR l) (l.length + 1) = 1
    rw [ht]
    show (Pl.X - Pl.C (Fld.to r)) 1 * 1 = 1
    rw [Pl.sub_at, Pl.C_s]
    show (1 - 0) * 1 = (1 : Fld.F)
    decide +kernel

end Go.Proofs.Ythnbkbmhlalpaaa

namespace Go.Proofs.Ythnbkbmhlalpaaa
open Go.RowKit

theorem rscale_v {w : World} {o : Value} {s : Pl} {d : Nat} (h : Qv w o s d) (hd : d ≤ 100000) (t : Nat) : Calls Try.prog 47 #[o, .int .u64 (t : Int)] w fun e w' => (∃ z, e = .returned z ∧ Tv w' z (Pl.C (Fld.to t) * s) d) ∧ Below w.heap.size w w' := by
  have hl := h.lt
  obtain ⟨A, n, c, l, rfl, h1, h2, h3, rfl⟩ := h
  exact (rscale_poly A n c t l w h1.1 (by omega) h1.2.1).mono fun e w' ⟨g, b⟩ => ⟨Tv.mk g (Pl.Lt.smul _ hl), b⟩
namespace Pl
open Fld (F iv)
/-- What is known behind i rounds. -/
structure RfI (xs ys : List Nat) (n i : Nat) (S : Pl) : Prop where
  lt : Lt S n
  vs : ∀ j, j < n → val S (co xs j) = if j < i then co ys j else 0
  ds : ∀ a, a < i → ∀ b, b < n → b ≠ a → co xs a ≠ co xs b
/-- What is known of one part behind k rounds. -/
structure RfK (xs ys : List Nat) (i k : Nat) (T : Pl) : Prop where
  lt : Lt T (k + 1 - (if i < k then 1 else 0))
  own : val T (co xs i) = co ys i
  vs : ∀ j, j < k → j ≠ i → val T (co xs j) = 0
  ds : ∀ b, b < k → b ≠ i → co xs i ≠ co xs b
theorem RfI.start (xs ys : List Nat) (n : Nat) : RfI xs ys n 0 0 := ⟨Lt.zero n, fun j _ => by rw [val_zero, if_neg (Nat.not_lt_zero j)], fun a h => absurd h (Nat.not_lt_zero a)⟩
theorem RfK.start (xs ys : List Nat) (i : Nat) : RfK xs ys i 0 (C (co ys i)) := ⟨by rw [if_neg (Nat.not_lt_zero i)]; exact Lt.C _, val_C _ _, fun j h => absurd h (Nat.not_lt_zero j), fun j h => absurd h (Nat.not_lt_zero j)⟩
theorem RfK.skip {xs ys : List Nat} {i : Nat} {T : Pl} (h : RfK xs ys i i T) : RfK xs ys i (i + 1) T :=
  ⟨by have h1 := h.lt; rw [if_neg (Nat.lt_irrefl i)] at h1; rw [if_pos (Nat.lt_succ_self i)]; exact h1, h.own, fun j hj hne => h.vs j (by omega) hne, fun j hj hne => h.ds j (by omega) hne⟩
theorem RfK.step {xs ys : List Nat} {i k : Nat} {T : Pl} (h : RfK xs ys i k T) (hk : k ≠ i) (hd : co xs i - co xs k ≠ 0) : RfK xs ys i (k + 1) (C (iv (co xs i - co xs k)) * (T * lin (co xs k))) := by
  have pT : Po T := ⟨_, h.lt⟩
  have hv : ∀ x, val (C (iv (co xs i - co xs k)) * (T * lin (co xs k))) x = iv (co xs i - co xs k) * (val T x * (x - co xs k)) := fun x => by
    rw [val_smul _ (pT.mul (Po.lin _)), val_mul pT (Po.lin _), val_lin]
  refine ⟨Lt.smul _ ?_, ?_, fun j hj hne => ?_, fun b hb hne => ?_⟩
  · rw [mul_comm, lin_mul]
    have h1 := h.lt.sh.sub ((Lt.smul (co xs k) h.lt).mono (Nat.le_succ _))
    refine h1.mono ?_
    split <;> split <;> omega
  · rw [hv, h.own]
    have := Fld.mul_iv hd
    grind
  · rw [hv]
    rcases Nat.lt_or_ge j k with h1 | h1
    · rw [h.vs j h1 hne]; grind
    · obtain rfl : j = k := by omega
      grind
  · rcases Nat.lt_or_ge b k with h1 | h1
    · exact h.ds b h1 hne
    · obtain rfl : b = k := by omega
      intro e
      exact hd (by rw [e]; exact Fin.sub_self)
theorem RfI.step {xs ys : List Nat} {n i : Nat} {S T : Pl} (h : RfI xs ys n i S) (hk : RfK xs ys i n T) (hi : i < n) : RfI xs ys n (i + 1) (S + T) := by
  have hl := hk.lt
  rw [if_pos hi] at hl
  refine ⟨h.lt.add (hl.mono (by omega)), fun j hj => ?_, fun a ha b hb hne => ?_⟩
  · rw [val_add ⟨_, h.lt⟩ ⟨_, hl⟩, h.vs j hj]
    by_cases h1 : j = i
    · subst h1
      rw [if_neg (Nat.lt_irrefl j), if_pos (Nat.lt_succ_self j), hk.own]; grind
    · rw [hk.vs j hj h1]
      by_cases h2 : j < i
      · rw [if_pos h2, if_pos (by omega)]; grind
      · rw [if_neg h2, if_neg (by omega)]; exact Fin.add_zero 0
  · rcases Nat.lt_or_ge a i with h1 | h1
    · exact h.ds a h1 b hb hne
    · obtain rfl : a = i := by omega
      exact hk.ds b hb hne
theorem RfI.fi {xs ys : List Nat} {n : Nat} {S : Pl} (h : RfI xs ys n n S) : Fi xs ys n S ∧ Dis xs n :=
  ⟨⟨h.lt, fun j hj => by rw [h.vs j hj, if_pos hj]⟩, fun i j hij hj => h.ds i (by omega) j hj (by omega)⟩
end Pl

/-- What the reference's From tells. -/
def RfT (n : Nat) (xs ys : List Nat) (e : Ending) (w' : World) : Prop := (Pl.Dis xs n → ∃ z s, e = .returned z ∧ Tv w' z s n ∧ Pl.Fi xs ys n s) ∧ (¬ Pl.Dis xs n → e = .returned (.slice none 0 0))
/-- What it keeps. -/
def RoAt (w wr : World) (xs ys : List Nat) (n i : Nat) (o : Value) : Prop := ∃ S, Tv wr o S n ∧ Pl.RfI xs ys n i S ∧ Below w.heap.size w wr
def RpAt (w wr : World) (xs ys : List Nat) (n i k : Nat) (p : Value) : Prop := ∃ T, Qv wr p T (n + 1) ∧ Pl.RfK xs ys i k T ∧ Below w.heap.size w wr

set_option maxRecDepth 100000 in
set_option maxHeartbeats 8000000 in
theorem rfrom_same (A A2 : Option Addr) (n ca cb : Nat) (xs ys : List Nat) (w : World) (hn : n = xs.length) (hm : n = ys.length) (hn9 : n ≤ 1000) (hy : ∀ y ∈ ys, y < 18446744073709551616) (hA : Rd w.heap.size w A (u64s xs)) (hA2 : Rd w.heap.size w A2 (u64s ys)) :
    Calls Try.prog 30 #[.slice A n ca, .slice A2 n cb] w fun e w' => RfT n xs ys e w' ∧ Below w.heap.size w w' := by
  have HN := Lib.hid hn
  have HM := Lib.hid hm
  have HY := Lib.hid hy
  have HA := Lib.hid hA
  have HA2 := Lib.hid hA2
  have h0 : RoAt w w xs ys n 0 (.slice none 0 0) := ⟨0, Tv.nil w n, Pl.RfI.start xs ys n, Below.refl _ _⟩
  have H0 := Lib.hid h0
  clear hn hm hy hA hA2 h0
  go_enter Try.func30, Try.ntmps30
  go_wp2
  go_loopw [5, 6] (fun o i wr => ∃ t : Nat, i = .int .i64 (t : Int) ∧ t ≤ n ∧ RoAt w wr xs ys n t o) (fun _ i _ => n - (intOf i).toNat)
  case atStart => exact ⟨0, rfl, Nat.zero_le _, H0.out⟩
  case round =>
    obtain ⟨i, rfl, hi, S, hS, hRI, hbw⟩ := hrel
    have HS := Lib.hid hS
    have HRI := Lib.hid hRI
    clear hS hRI H0
    by_cases hlt : i < n
    · obtain ⟨b1, o1, e1, hb1, hc1⟩ := HA2.out.num (k := i) (by rw [← HM.out]; exact hlt)
      obtain ⟨b0, o0, e0, hb0, hc0⟩ := HA.out.num (k := i) (by rw [← HN.out]; exact hlt)
      obtain ⟨wo, hwo⟩ : ∃ wo, wo = wr := ⟨_, rfl⟩
      rw [← hwo] at HS hbw ⊢
      have hc1r := (hbw.cell (p := ⟨b1, o1 + i, none⟩) hb1).trans hc1
      obtain ⟨y, hyy⟩ : ∃ y, y = ys[i]?.getD 0 := ⟨_, rfl⟩
      rw [← hyy] at hc1r
      have hyc : Fld.to y = Pl.co ys i := by rw [hyy]; rfl
      have hy64 : y < 18446744073709551616 := by rw [hyy]; exact get_big HY.out i
      obtain ⟨x, hx⟩ : ∃ x, x = xs[i]?.getD 0 := ⟨_, rfl⟩
      rw [← hx] at hc0
      have hxc : Fld.to x = Pl.co xs i := by rw [hx]; rfl
      have HXC := Lib.hid hxc
      have HYC := Lib.hid hyc
      have HC0 := Lib.hid hc0
      clear hwo hc1 hyy hyc hx hxc hc0
      subst e1 e0
      go_wp2
      have hp0 : RpAt wo (wo.alloc (.cells #[.int .u64 (y : Int)] 22)) xs ys n i 0 (.slice (some ⟨wo.heap.size, 0, none⟩) 1 1) :=
        ⟨_, ⟨_, 1, 1, [y], rfl, ⟨rfl, rd_news wo [y], Nat.le_refl _, fun e => by cases e⟩, by intro z hz; rw [List.mem_singleton.1 hz]; exact hy64, by omega, (co_one y).trans (by rw [HYC.out])⟩, Pl.RfK.start xs ys i, (Below.refl _ wo).alloc (Nat.le_refl _) _⟩
      have HP0 := Lib.hid hp0
      clear hp0 hc1r
      go_loopw [7, 8] (fun p k wr => ∃ t : Nat, k = .int .i64 (t : Int) ∧ t ≤ n ∧ RpAt wo wr xs ys n i t p) (fun _ k _ => n - (intOf k).toNat)
      case atStart => exact ⟨0, rfl, Nat.zero_le _, HP0.out⟩
      case round =>
        obtain ⟨k, rfl, hk, T, hT, hRK, hbk⟩ := hrel
        have HT := Lib.hid hT
        have HRK := Lib.hid hRK
        clear hT hRK HP0
        have hbwk := kept_trans hbw hbk
        by_cases hlk : k < n
        · by_cases hki : k = i
          · subst hki
            have t1 : ((k : Int) == (k : Int)) = true := by simp
            go_wp2
            go_roundw
            case rel => exact ⟨k + 1, by go_num, hlk, T, HT.out, HRK.out.skip, hbk⟩
            case measure => simp [intOf]; omega
          · have t1 : ((k : Int) == (i : Int)) = false := by rw [beq_eq_false_iff_ne]; omega
            obtain ⟨b2, o2, e2, hb2, hc2⟩ := HA.out.num (k := k) (by rw [← HN.out]; exact hlk)
            injection e2 with e2
            injection e2 with e3 e4
            subst e3 e4
            have hci := (hbwk.cell (p := ⟨b0, o0 + i, none⟩) hb0).trans HC0.out
            have hck := (hbwk.cell (p := ⟨b0, o0 + k, none⟩) hb0).trans hc2
            obtain ⟨xk, hxk⟩ : ∃ xk, xk = xs[k]?.getD 0 := ⟨_, rfl⟩
            rw [← hxk] at hck
            have hxkc : Fld.to xk = Pl.co xs k := by rw [hxk]; rfl
            have hsl := Fld.sub_lt x xk
            have hq := quiet_same (rsub_any x xk)
            have hdc : Fld.to (Fld.sub x xk) = Pl.co xs i - Pl.co xs k := by rw [Fld.to_subF, HXC.out, hxkc]
            obtain ⟨d, hd⟩ : ∃ d, d = Fld.sub x xk := ⟨_, rfl⟩
            rw [← hd] at hsl hq hdc
            have HXKC := Lib.hid hxkc
            have HQ := Lib.hid hq
            have HDC := Lib.hid hdc
            have q1 : (0 : Int) ≤ (i : Int) := by omega
            have q2 : (i : Int) < (n : Int) := by omega
            have q3 : (0 : Int) ≤ (k : Int) := by omega
            have q4 : (k : Int) < (n : Int) := by omega
            clear hc2 hxk hxkc hd hq hdc
            go_wp2
            go_quiet ((go_at_call 46; exact quiet_any HQ.out))
            rename_i nq
            obtain ⟨w5, hw5⟩ : ∃ w5, w5 = wr.drewN nq := ⟨_, rfl⟩
            rw [← hw5]
            have hb5 : Below wr.heap.size wr w5 := by rw [hw5]; exact below_drewN (Below.refl _ _) _
            have hck5 := (hb5.cell (p := ⟨b0, o0 + k, none⟩) (by show b0 < wr.heap.size; have := hbwk.size; omega)).trans hck
            clear hw5 hck hci
            rcases Nat.eq_zero_or_pos d with h0 | h0
            · have hnd : ¬ Pl.Dis xs n := by
                intro hD
                have he : Pl.co xs i = Pl.co xs k := by
                  have h1 := HDC.out
                  rw [h0] at h1
                  have h2 : (0 : Fld.F) = Pl.co xs i - Pl.co xs k := h1
                  grind
                rcases Nat.lt_or_ge i k with h1 | h1
                · exact hD i k h1 hlk he
                · exact hD k i (by omega) hlt he.symm
              have HND := Lib.hid hnd
              clear hnd hck5
              subst h0
              go_wp2
              go_ret
              exact ⟨⟨fun h => absurd h HND.out, fun _ => rfl⟩, kept_trans hbwk hb5⟩
            · have t2 : ((d : Int) == 0) = false := by rw [beq_eq_false_iff_ne]; omega
              have hdne : Pl.co xs i - Pl.co xs k ≠ 0 := by rw [← HDC.out]; exact fun h => by have := (Pl.to_eq_zero hsl).1 h; omega
              have HDNE := Lib.hid hdne
              have hro := Pl.co_root xk
              have hyl := Fld.sub_lt 0 xk
              have hsb := rsub_any 0 xk w5
              rw [show ((0 : Nat) : Int) = 0 from rfl] at hsb
              obtain ⟨v, hv⟩ : ∃ v, v = Fld.sub 0 xk := ⟨_, rfl⟩
              rw [← hv] at hro hyl hsb
              rw [HXKC.out] at hro
              have HRO := Lib.hid hro
              have HSB := Lib.hid hsb
              have HT5 := Lib.hid (HT.out.below hb5)
              clear hdne hro hsb hv
              go_wp2_with fail
              refine HSB.out.mono ?_
              rintro e w6 ⟨rfl, rfl⟩
              go_wp2_with fail
              have hqv : Qv (w5.alloc (.cells #[.int .u64 (v : Int), .int .u64 1] 22)) (.slice (some ⟨w5.heap.size, 0, none⟩) 2 2) (Pl.lin (Pl.co xs k)) 2 :=
                ⟨_, 2, 2, [v, 1], rfl, ⟨rfl, rd_news w5 [v, 1], Nat.le_refl _, fun e => by cases e⟩, by intro z hz; simp at hz; omega, Nat.le_refl _, HRO.out⟩
              refine (rmul_v (HT5.out.new _) hqv (by omega) (by omega)).mono ?_
              rintro e w7 ⟨⟨p7, rfl, h7⟩, hb7⟩
              have hb57 := kept_trans hb5 (below_new hb7)
              have H7 := Lib.hid h7
              clear hqv h7 hb7 hck5
              go_wp2_with fail
              refine (rinv_any d w7).mono ?_
              rintro e w8 ⟨rfl, hb8⟩
              have hiv : Fld.to (Fld.pow d 2305843009213693949) = Fld.iv (Pl.co xs i - Pl.co xs k) := by rw [Fld.to_powI, HDC.out]
              obtain ⟨u, hu⟩ : ∃ u, u = Fld.pow d 2305843009213693949 := ⟨_, rfl⟩
              rw [← hu] at hiv ⊢
              have hsc := rscale_v (H7.out.below hb8).q (by omega) u
              rw [hiv] at hsc
              have HSC := Lib.hid hsc
              clear hiv hu hsc
              go_wp2_with fail
              refine HSC.out.mono ?_
              rintro e w9 ⟨⟨p9, rfl, h9⟩, hb9⟩
              have hb59 := kept_trans hb57 (kept_trans hb8 hb9)
              have hst := HRK.out.step hki HDNE.out
              have H9 := Lib.hid (And.intro ((h9.less hst.lt).wide (show k + 1 + 1 - (if i < k + 1 then 1 else 0) ≤ n + 1 by split <;> omega)).q hst)
              clear h9 hst
              go_wp2
              go_roundw
              case rel => exact ⟨k + 1, by go_num, hlk, _, H9.out.1, H9.out.2, kept_trans hbk hb59⟩
              case measure => simp [intOf]; omega
        · obtain rfl : k = n := by omega
          have hT2 := HT.out
          have HSk := Lib.hid (HS.out.below hbk)
          go_wp2_with fail
          refine (radd_v HSk.out.q HT.out (by omega) (by omega)).mono ?_
          rintro e w7 ⟨⟨p7, rfl, h7⟩, hb7⟩
          have hri := HRI.out.step HRK.out hlt
          have H7 := Lib.hid (And.intro (h7.less hri.lt) hri)
          have hbw7 := kept_trans hbwk hb7
          clear h7 hri hT2
          go_wp2
          go_roundw
          case rel => exact ⟨i + 1, by go_num, hlt, _, H7.out.1, H7.out.2, hbw7⟩
          case measure => simp [intOf]; omega
    · obtain rfl : i = n := by omega
      have hfi := HRI.out.fi
      have HF := Lib.hid hfi
      clear hfi
      go_wp2
      go_ret
      exact ⟨⟨fun _ => ⟨_, S, rfl, HS.out, HF.out.1⟩, fun h => absurd HF.out.2 h⟩, hbw⟩
end Go.Proofs.Ythnbkbmhlalpaaa

/-
  What the statements on division want: exact divisions, the greatest common divisor's last coefficient, what is left.
-/
namespace Go.Proofs.Ythnbkbmhlalpaaa
open Go.RowKit

/-- A cell that holds a number. -/
def Lc (w : World) (b p v : Nat) : Prop := b < w.heap.size ∧ w.cell? ⟨b, p, none⟩ = some (.int .u64 (v : Int))
theorem Lc.below {w w' : World} {b p v : Nat} (h : Lc w b p v) (hb : Below w.heap.size w w') : Lc w' b p v := ⟨Nat.lt_of_lt_of_le h.1 hb.size, (hb.cell (p := ⟨b, p, none⟩) h.1).trans h.2⟩
theorem Lc.new {w : World} {b p v : Nat} (h : Lc w b p v) (x : Obj) : Lc (w.alloc x) b p v := h.below ((Below.refl _ w).alloc (Nat.le_refl _) _)

section
variable {w : World} {o o2 : Value} {s t g : Pl} {d k : Nat}
theorem Tv.last (h : Tv w o g d) (h0 : g ≠ 0) (hm : ∀ n, Pl.Dg g n → g n = 1) : ∃ b off j c, o = .slice (some ⟨b, off, none⟩) (j + 1 : Nat) c ∧ Lc w b (off + j) 1 := by
  obtain ⟨A, n, c, l, rfl, hp, hi, hn⟩ := h
  have hl : l.length ≠ 0 := fun e => h0 (by rw [← hi.2]; exact hi.1.len_zero.1 e)
  obtain ⟨j, hj⟩ : ∃ j, l.length = j + 1 := ⟨l.length - 1, by omega⟩
  have hdg := hi.1.dg hj
  rw [hi.2] at hdg
  have h1 := hm j hdg
  rw [← hi.2, Pl.co_at] at h1
  have h2 : l[j]?.getD 0 = 1 := Pl.to_inj' (hi.1.1.get j) (by omega) h1
  obtain ⟨b, off, e, hb, hc⟩ := hp.2.1.num (k := j) (by omega)
  rw [h2] at hc
  have hnj : n = j + 1 := hp.1.trans hj
  subst hnj e
  exact ⟨b, off, j, c, rfl, hb, hc⟩
end
namespace Pl
theorem Dv.mul_mul {a b c : Pl} (h : Dv a b) : Dv (a * c) (b * c) := by
  obtain ⟨q, hq, e⟩ := h
  exact ⟨q, hq, by rw [e, mul_assoc, mul_assoc, mul_comm q c]⟩
/-- What is left of two, divided by their greatest common divisor, has nothing in common. -/
theorem Gc.unit {p q g x y h : Pl} (hg : Gc p q g) (g0 : g ≠ 0) (hx : p = x * g) (hy : q = y * g) (hh : Gc x y h) : Dg h 0 := by
  have h1 : Dv (h * g) g := (hg.2.1 _ (hh.1.mul hg.1)).2 ⟨hx ▸ hh.left.mul_mul, hy ▸ hh.right.mul_mul⟩
  have h0 : h ≠ 0 := by
    rintro rfl
    rw [zero_mul] at h1
    exact g0 h1.zero_left
  obtain ⟨m, hm⟩ := hh.1.dg h0
  obtain ⟨n, hn⟩ := hg.1.dg g0
  have := h1.dg (hm.mul hn) hn
  obtain rfl : m = 0 := by omega
  exact hm
end Pl
end Go.Proofs.Ythnbkbmhlalpaaa

/-
  The references' helpers: numbers, sorted, each once; small numbers; a secret; whether a number is one of some; a polynomial without roots.
-/
namespace Go.Proofs.Ythnbkbmhlalpaaa
open Go.RowKit

/-! ### integers that came in -/
def ints (l : List Int) : List Value := l.map (Value.int .i64)
theorem ints_len (l : List Int) : (ints l).length = l.length := by simp [ints]
theorem row_i64 (w : World) (a : Option Addr) (len cap : Nat) (zs : List Int)
    (h : (a = none ∧ len = 0 ∧ cap = 0 ∧ zs = []) ∨
      ∃ x, a = some x ∧ len ≤ cap ∧ cap ≤ maxLen ∧ zs.length = cap ∧ (∀ i, i < zs.length → w.cell? (x.add i) = some (.int .i64 (zs.getD i 0))) ∧ ∀ n ∈ zs, (Lit.int .i64 n).wf = true) :
    ∃ l : List Int, len = l.length ∧ len ≤ 9223372036854775807 ∧ (∀ z ∈ l, -9223372036854775808 ≤ z ∧ z ≤ 9223372036854775807) ∧ Rd w.heap.size w a (ints l) := by
  have hlen : len ≤ 9223372036854775807 := by
    rcases h with ⟨_, rfl, _, _⟩ | ⟨x, _, hl, hm, _⟩
    · omega
    · unfold maxLen at hm; omega
  obtain ⟨h1, h2, _, h3, h4, h5⟩ := row_any .i64 w a len cap zs h
  refine ⟨zs.take len, h1.symm, hlen, fun z hz => ?_, fun hp => ?_⟩
  · have := bounds_i64 (h4 z hz)
    omega
  · rw [ints_len, h1] at hp
    obtain ⟨b, off, e, hb, hc⟩ := h5 hp
    refine ⟨b, off, e, hb, fun i u hu => ?_⟩
    unfold ints at hu
    rw [List.getElem?_map] at hu
    obtain ⟨n, hn, rfl⟩ := Option.map_eq_some_iff.1 hu
    exact hc i n hn
/-- A list of integers that came in. -/
def Iz (w : World) (A : Option Addr) (n : Nat) (l : List Int) : Prop := n = l.length ∧ n ≤ 9223372036854775807 ∧ (∀ z ∈ l, -9223372036854775808 ≤ z ∧ z ≤ 9223372036854775807) ∧ Rd w.heap.size w A (ints l)
theorem Iz.below {w w' : World} {A : Option Addr} {n : Nat} {l : List Int} (h : Iz w A n l) (hb : Below w.heap.size w w') : Iz w' A n l := ⟨h.1, h.2.1, h.2.2.1, (h.2.2.2.below hb).more hb.size⟩

/-! ### small numbers -/
/-! ### a secret; a number among some -/
/-! ### a list behind a list -/
theorem wpList_app64 {ops : Array Oper} {rest : List Oper} {o : Oper} {a : Act} {Q : Exit → Act → World → Prop} {w : World} (hgd : o.guard = none) (s x : Operand)
    (ho : o.op = .call { callee := .builtin .append, args := #[s, x], argTypes := #[23, 23] }) (B : Nat) (L l2 : List Nat) (u : Value) (A2 : Option Addr) (q c2 : Nat) (hg : Gl B w u L) (hs : a.eval s = u) (hx : a.eval x = .slice A2 q c2)
    (hq : q = l2.length) (hR : Rd w.heap.size w A2 (u64s l2)) (hnil : A2 = none → c2 = 0 ∧ q = 0) (hk : L.length + q ≤ 1000000000) (hB : B ≤ w.heap.size)
    (h : ∀ z w1, Gl B w1 z (L ++ l2) → Below B w w1 → wpList Try.prog ops Q rest (a.put o.dst z) w1) : wpList Try.prog ops Q (o :: rest) a w := by
  obtain ⟨i0, hi, hz0, hz1, hz2⟩ := info_parts info_u64
  obtain ⟨A, c, rfl, hrow⟩ := hg
  rcases A2 with _ | ad
  · obtain ⟨rfl, rfl⟩ := hnil rfl
    obtain rfl : l2 = [] := List.eq_nil_of_length_eq_zero hq.symm
    refine wpList_append_own_none hgd s x 23 ho B 22 i0 1 Try.underlying23 hi _ _ _ hs hrow hx ?_
    exact h _ w ⟨A, c, by rw [List.append_nil], by rw [List.append_nil]; exact hrow⟩ (Below.refl _ _)
  · refine wpList_append_own w hgd s x 23 ho B 22 i0 (.int .u64 0) 1 8 Try.underlying23 hi hz0 hz1 hz2 rfl (by decide) _ _ _ hs hrow ad q c2 (u64s l2) hx (by rw [u64s_len, hq, Nat.mul_one]) ?_ ?_ (by unfold maxLen; omega) (by omega) hB ?_
    · rcases Nat.eq_zero_or_pos q with h0 | h0
      · obtain rfl : l2 = [] := List.eq_nil_of_length_eq_zero (by omega)
        intro j v hv
        simp [u64s] at hv
      · obtain ⟨b, off, e, _, hc⟩ := hR (by rw [u64s_len]; omega)
        injection e with e
        subst e
        intro j v hv
        rw [Addr.add_lit]
        exact hc j v hv
    · intro v hv
      obtain ⟨y, _, rfl⟩ := List.mem_map.1 hv
      rfl
    · intro v' w1 hown hgrow _
      have hown2 : w1.ownsRow B 22 1 v' (L.length + q) (u64s (L ++ l2)) := by
        have e : u64s (L ++ l2) = u64s L ++ u64s l2 := by unfold u64s; rw [List.map_append]
        rw [e]; exact hown
      obtain ⟨A', c', rfl⟩ : ∃ A' c', v' = .slice A' (L.length + q) c' := by
        rcases hown.2 with ⟨rfl, h0⟩ | ⟨g, cp, _, rfl, _⟩
        · exact ⟨none, 0, by rw [h0]⟩
        · exact ⟨_, cp, rfl⟩
      refine h _ w1 ⟨A', c', by rw [List.length_append, hq], by rw [List.length_append, ← hq]; exact hown2⟩ ?_
      exact (Below.refl B w).grown hgrow hB (fun j e => (hrow.lt j e).1)

/-- What s[k:] is. -/
theorem slice_tail (A : Option Addr) (n c k q : Nat) (hk : k ≤ n) (hq : q = n - k) (hnc : n ≤ c) (hnil : A = none → c = 0) : ∃ A' c', (∀ W, (Instr.slice 23 (.slice A n c) (some (.int .i64 (k : Int))) none none).run Try.prog W = .ok (.slice A' q c') W) ∧ (A' = none → c' = 0 ∧ q = 0) ∧
    ∀ (B : Nat) (w : World) (l : List Nat), n = l.length → Rd B w A (u64s l) → Rd B w A' (u64s (l.drop k)) := by
  rcases A with _ | ad
  · have hc := hnil rfl
    subst hc
    obtain rfl : n = 0 := by omega
    obtain rfl : k = 0 := by omega
    obtain rfl : q = 0 := by omega
    refine ⟨none, 0, fun W => ?_, fun _ => ⟨rfl, rfl⟩, fun B w l hl h => ?_⟩
    · have hz : (sizeOf (Try.prog.elem 23)).run Try.prog W = .ok 1 W := by kernel_rfl
      have h := run_slice_l (P := Try.prog) W 23 none 0 0 (by kernel_rfl) .i64 ((0 : Nat) : Int) (by omega) (by omega)
      rw [h, hz]
      simp [Result.andThen, sliced]
    · rw [List.drop_zero]; exact h
  · refine ⟨if c = k then some ad else some (ad.add (k * 1)), c - k, fun W => ?_, (fun e => by split at e <;> cases e), fun B w l hl h => ?_⟩
    · have hz : (sizeOf (Try.prog.elem 23)).run Try.prog W = .ok 1 W := by kernel_rfl
      have h := run_slice_l (P := Try.prog) W 23 (some ad) n c (by kernel_rfl) .i64 (k : Int) (by omega) (by omega)
      rw [h, hz, hq]
      simp only [Result.andThen, sliced, Int.toNat_natCast, Option.map_some]
    · intro hp
      rw [u64s_len, List.length_drop] at hp
      obtain ⟨b, off, e, hb, hc⟩ := h (by rw [u64s_len]; omega)
      injection e with e
      subst e
      refine ⟨b, off + k, ?_, hb, fun i u hu => ?_⟩
      · rw [if_neg (by omega), Nat.mul_one, Addr.add_lit]
      · have h1 : (u64s l)[k + i]? = some u := by
          rw [← hu]
          unfold u64s
          rw [List.map_drop, List.getElem?_drop]
        have h2 := hc (k + i) u h1
        rwa [← Nat.add_assoc] at h2

theorem Gl.base {B B' : Nat} {w : World} {o : Value} {L : List Nat} (h : Gl B w o L) (hB : B' ≤ B) : Gl B' w o L := by
  obtain ⟨A, c, e, h1, h2⟩ := h
  refine ⟨A, c, e, h1, ?_⟩
  rcases h2 with h2 | ⟨g, cap, cur, h3, h4, h5⟩
  · exact .inl h2
  · exact .inr ⟨g, cap, cur, h3, Nat.le_trans hB h4, h5⟩

/-! ### sorted, each once -/
/-- The first i numbers, modulo the prime, rising, each once. -/
def Srtd (l : List Nat) (i : Nat) (L : List Nat) : Prop := L.Pairwise (· < ·) ∧ ∀ x, x ∈ L ↔ ∃ j, j < i ∧ x = Fld.num (l[j]?.getD 0)
theorem mem_getD {L : List Nat} {x : Nat} : x ∈ L ↔ ∃ j, j < L.length ∧ L[j]?.getD 0 = x := by
  constructor
  · intro h
    obtain ⟨j, hj, e⟩ := List.mem_iff_getElem.1 h
    exact ⟨j, hj, by rw [List.getElem?_eq_getElem hj]; exact e⟩
  · rintro ⟨j, hj, e⟩
    rw [List.getElem?_eq_getElem hj] at e
    exact e ▸ List.getElem_mem hj
theorem rise_lt {L : List Nat} (h : L.Pairwise (· < ·)) {i j : Nat} (hij : i < j) (hj : j < L.length) : L[i]?.getD 0 < L[j]?.getD 0 := by
  rw [List.getElem?_eq_getElem (by omega), List.getElem?_eq_getElem hj]
  exact List.pairwise_iff_getElem.1 h i j (by omega) hj hij
theorem Srtd.found {l L : List Nat} {i k : Nat} (h : Srtd l i L) (hk : k < L.length) (e : L[k]?.getD 0 = Fld.num (l[i]?.getD 0)) : Srtd l (i + 1) L :=
  ⟨h.1, fun x => by
    rw [h.2]
    constructor
    · rintro ⟨j, hj, e⟩; exact ⟨j, by omega, e⟩
    · rintro ⟨j, hj, e1⟩
      rcases Nat.lt_or_ge j i with h1 | h1
      · exact ⟨j, h1, e1⟩
      · obtain rfl : j = i := by omega
        exact (h.2 x).1 (mem_getD.2 ⟨k, hk, e.trans e1.symm⟩)⟩
theorem Srtd.put {l L : List Nat} {i k x : Nat} (h : Srtd l i L) (hx : x = Fld.num (l[i]?.getD 0)) (hk : k ≤ L.length) (h1 : ∀ j, j < k → L[j]?.getD 0 < x) (h2 : k < L.length → x < L[k]?.getD 0) : Srtd l (i + 1) (L.take k ++ [x] ++ L.drop k) := by
  refine ⟨?_, fun y => ?_⟩
  · rw [List.append_assoc, List.pairwise_append]
    refine ⟨h.1.sublist (List.take_sublist k L), ?_, ?_⟩
    · rw [List.singleton_append, List.pairwise_cons]
      refine ⟨fun b hb => ?_, h.1.sublist (List.drop_sublist k L)⟩
      obtain ⟨j, hj, e⟩ := mem_getD.1 hb
      rw [List.length_drop] at hj
      rw [List.getElem?_drop] at e
      rcases Nat.eq_zero_or_pos j with h0 | h0
      · subst h0; rw [← e]; exact h2 (by omega)
      · have := h2 (by omega)
        have := rise_lt h.1 (i := k) (j := k + j) (by omega) (by omega)
        omega
    · intro a ha b hb
      obtain ⟨j, hj, e⟩ := mem_getD.1 ha
      rw [List.length_take] at hj
      rw [List.getElem?_take, if_pos (by omega)] at e
      have h3 := h1 j (by omega)
      rcases List.mem_append.1 hb with hb | hb
      · rw [List.mem_singleton.1 hb]; omega
      · obtain ⟨m, hm, e2⟩ := mem_getD.1 hb
        rw [List.length_drop] at hm
        rw [List.getElem?_drop] at e2
        have := rise_lt h.1 (i := j) (j := k + m) (by omega) (by omega)
        omega
  · have e : y ∈ L.take k ++ [x] ++ L.drop k ↔ y = x ∨ y ∈ L := by
      rw [List.mem_append, List.mem_append, List.mem_singleton]
      constructor
      · rintro ((h | h) | h)
        · exact .inr (List.mem_of_mem_take h)
        · exact .inl h
        · exact .inr (List.mem_of_mem_drop h)
      · rintro (h | h)
        · exact .inl (.inr h)
        · rw [← List.take_append_drop k L, List.mem_append] at h
          rcases h with h | h
          · exact .inl (.inl h)
          · exact .inr h
    rw [e, h.2]
    constructor
    · rintro (h | ⟨j, hj, e⟩)
      · exact ⟨i, by omega, h.trans hx⟩
      · exact ⟨j, by omega, e⟩
    · rintro ⟨j, hj, e⟩
      rcases Nat.lt_or_ge j i with h1 | h1
      · exact .inr ⟨j, h1, e⟩
      · obtain rfl : j = i := by omega
        exact .inl (e.trans hx.symm)

end Go.Proofs.Ythnbkbmhlalpaaa

/-
  PolyFroms: the least polynomial with some values, and that of some roots, is the document's.
-/
namespace Go.Proofs.Ythnbkbmhlalpaaa
open Go.RowKit

/-- A slice of up to d numbers of 64 bits. -/
def Nv (w : World) (o : Value) (l : List Nat) (d : Nat) : Prop := ∃ A n c, o = .slice A n c ∧ Pt w A n c l ∧ (∀ y ∈ l, y < 18446744073709551616) ∧ n ≤ d
theorem Nv.below {w w' : World} {o : Value} {l : List Nat} {d : Nat} (h : Nv w o l d) (hb : Below w.heap.size w w') : Nv w' o l d := by
  obtain ⟨A, n, c, e, h1, h2⟩ := h
  exact ⟨A, n, c, e, h1.below hb, h2⟩
theorem Nv.new {w : World} {o : Value} {l : List Nat} {d : Nat} (h : Nv w o l d) (x : Obj) : Nv (w.alloc x) o l d := h.below ((Below.refl _ w).alloc (Nat.le_refl _) _)
theorem Nv.take {w : World} {A : Option Addr} {n c k d : Nat} {l : List Nat} (h : Nv w (.slice A n c) l d) (hk : k ≤ n) : Nv w (.slice A k c) (l.take k) d := by
  obtain ⟨_, _, _, e, h1, h2, h3⟩ := h
  injection e with e1 e2 e3
  subst e1 e2 e3
  exact ⟨A, k, c, rfl, ⟨by rw [List.length_take]; have := h1.1; omega, h1.2.1.take k, by have := h1.2.2.1; omega, h1.2.2.2⟩, fun y hy => h2 y (List.mem_of_mem_take hy), by omega⟩
theorem Nv.len {w : World} {o : Value} {l : List Nat} {d : Nat} (h : Nv w o l d) : l.length ≤ d := by
  obtain ⟨A, n, c, e, h1, h2, h3⟩ := h
  have := h1.1
  omega
theorem numsn_v {w : World} {A : Option Addr} {n c : Nat} {l : List Nat} (h : In w A n c l) (m : Nat) (hm : m ≤ 1000) :
    Calls Try.prog 10 #[.slice A n c, .int .i64 (m : Int)] w fun e w' => (∃ z, e = .returned z ∧ Nv w' z (l.take m) m) ∧ Below w.heap.size w w' := by
  refine (nums_gl l A n c m w h.1 h.2.1 hm h.2.2.2.1 h.2.2.2.2).mono ?_
  rintro e w' ⟨⟨z, rfl, hz⟩, hb⟩
  obtain ⟨A', c', rfl, hp, _⟩ := hz.pt
  exact ⟨⟨_, rfl, A', _, c', rfl, hp, fun y hy => h.2.2.1 y (List.mem_of_mem_take hy), by rw [List.length_take]; exact Nat.min_le_left _ _⟩, hb⟩
/-- The polynomial of the least degree with the values; 0, if there is none. -/
noncomputable def fxs (xs ys : List Nat) : Pl := open Classical in if h : xs.length = ys.length ∧ Pl.Dis xs xs.length ∧ ∃ s, Pl.Fi xs ys xs.length s then Classical.choose h.2.2 else 0
theorem fxs_eq {xs ys : List Nat} {s : Pl} (h : xs.length = ys.length) (hd : Pl.Dis xs xs.length) (hs : Pl.Fi xs ys xs.length s) : fxs xs ys = s := by
  have h3 : xs.length = ys.length ∧ Pl.Dis xs xs.length ∧ ∃ s, Pl.Fi xs ys xs.length s := ⟨h, hd, s, hs⟩
  unfold fxs
  rw [dif_pos h3]
  exact (Classical.choose_spec h3.2.2).uniq hd hs
theorem fxs_zero {xs ys : List Nat} (h : ¬ (xs.length = ys.length ∧ Pl.Dis xs xs.length)) : fxs xs ys = 0 := by
  unfold fxs
  rw [dif_neg fun h2 => h ⟨h2.1, h2.2.1⟩]
theorem rfrom_ne (A A2 : Option Addr) (n m ca cb : Nat) (w : World) (hnm : n ≠ m) :
    Calls Try.prog 30 #[.slice A n ca, .slice A2 m cb] w fun e w' => e = .returned (.slice none 0 0) ∧ Below w.heap.size w w' := by
  have h1 : ((n : Int) != (m : Int)) = true := by rw [bne_iff_ne]; omega
  go_enter Try.func30, Try.ntmps30
  go_wp2
  go_ret
  exact ⟨rfl, Below.refl _ _⟩
section
variable {w : World} {o o2 : Value} {xs ys : List Nat} {d k : Nat}
theorem from_v (h : Nv w o xs d) (h' : Nv w o2 ys k) (hd : d ≤ 1000) (_hk : k ≤ 1000) : Calls Try.prog 23 #[o, o2] w fun e w' => (∃ z, e = .returned z ∧ Tv w' z (fxs xs ys) 1000) ∧ Below w.heap.size w w' := by
  obtain ⟨A, n, c, rfl, h1, h2, h3⟩ := h
  obtain ⟨A', n', c', rfl, h1', h2', h3'⟩ := h'
  by_cases he : n = n'
  · subst he
    refine (from_same A A' n c c' xs ys w h1.1 h1'.1 (by omega) h2 h2' h1.2.1 h1'.2.1).mono ?_
    rintro e w' ⟨⟨g1, g2⟩, hb⟩
    refine ⟨?_, hb⟩
    have hn := h1.1
    have hn' := h1'.1
    by_cases hD : Pl.Dis xs n
    · obtain ⟨s, hp, hs⟩ := g1 hD
      rw [hn] at hD hs
      rw [fxs_eq (by omega) hD hs]
      exact Tv.mk hp (hs.1.mono (by omega))
    · rw [g2 hD, fxs_zero fun h => hD (by rw [hn]; exact h.2)]
      exact ⟨_, rfl, Tv.nil _ _⟩
  · refine (from_ne A A' n n' c c' w he).mono ?_
    rintro e w' ⟨rfl, hb⟩
    rw [fxs_zero fun h => he (by rw [h1.1, h1'.1]; exact h.1)]
    exact ⟨⟨_, rfl, Tv.nil _ _⟩, hb⟩
theorem rfrom_v (h : Nv w o xs d) (h' : Nv w o2 ys k) (hd : d ≤ 1000) (_hk : k ≤ 1000) : Calls Try.prog 30 #[o, o2] w fun e w' => (∃ z, e = .returned z ∧ Tv w' z (fxs xs ys) 1000) ∧ Below w.heap.size w w' := by
  obtain ⟨A, n, c, rfl, h1, h2, h3⟩ := h
  obtain ⟨A', n', c', rfl, h1', h2', h3'⟩ := h'
  by_cases he : n = n'
  · subst he
    refine (rfrom_same A A' n c c' xs ys w h1.1 h1'.1 (by omega) h2' h1.2.1 h1'.2.1).mono ?_
    rintro e w' ⟨⟨g1, g2⟩, hb⟩
    refine ⟨?_, hb⟩
    have hn := h1.1
    have hn' := h1'.1
    by_cases hD : Pl.Dis xs n
    · obtain ⟨z, s, rfl, hz, hs⟩ := g1 hD
      rw [hn] at hD hs
      rw [fxs_eq (by omega) hD hs]
      exact ⟨z, rfl, hz.wide (by omega)⟩
    · rw [g2 hD, fxs_zero fun h => hD (by rw [hn]; exact h.2)]
      exact ⟨_, rfl, Tv.nil _ _⟩
  · refine (rfrom_ne A A' n n' c c' w he).mono ?_
    rintro e w' ⟨rfl, hb⟩
    rw [fxs_zero fun h => he (by rw [h1.1, h1'.1]; exact h.1)]
    exact ⟨⟨_, rfl, Tv.nil _ _⟩, hb⟩
theorem from_any_w (h : Nv w o xs 8) (h' : Nv w o2 ys 8) (W : World) (hW : Below w.heap.size w W) : Calls Try.prog 23 #[o, o2] W fun e w' => (∃ z, e = .returned z ∧ Tv w' z (fxs xs ys) 1000) ∧ Below w.heap.size w w' ∧ Below W.heap.size W w' :=
  (from_v (h.below hW) (h'.below hW) (by omega) (by omega)).mono fun _ _ ⟨g, b⟩ => ⟨g, hW.trans (b.mono hW.size), b⟩
theorem rfrom_any_w (h : Nv w o xs 8) (h' : Nv w o2 ys 8) (W : World) (hW : Below w.heap.size w W) : Calls Try.prog 30 #[o, o2] W fun e w' => (∃ z, e = .returned z ∧ Tv w' z (fxs xs ys) 1000) ∧ Below w.heap.size w w' ∧ Below W.heap.size W w' :=
  (rfrom_v (h.below hW) (h'.below hW) (by omega) (by omega)).mono fun _ _ ⟨g, b⟩ => ⟨g, hW.trans (b.mono hW.size), b⟩
theorem of_v (h : Nv w o xs d) (hd : d ≤ 1000) : Calls Try.prog 35 #[o] w fun e w' => (∃ z, e = .returned z ∧ Tv w' z (Pl.prodR xs) 1001) ∧ Below w.heap.size w w' := by
  obtain ⟨A, n, c, rfl, h1, h2, h3⟩ := h
  refine (of_poly A n c xs w (by omega) h1.1 h2 h1.2.1).mono ?_
  rintro e w' ⟨⟨g, L, rfl, g1, g2, g3, g4, g5⟩, hb⟩
  have hdg := Pl.Dg.prodR xs
  rw [← g5, ← h1.1] at hdg
  exact ⟨⟨_, rfl, _, n + 1, n + 1, L, rfl, ⟨g3.symm, g2.rd g2.lt, Nat.le_refl _, fun e => by cases e⟩, ⟨hdg.1.tr g4 g3, g5⟩, by omega⟩, hb⟩
end

end Go.Proofs.Ythnbkbmhlalpaaa

/-
  What the statements on roots want: lists of roots; numbers, sorted; the roots of a product.
-/
namespace Go.Proofs.Ythnbkbmhlalpaaa
open Go.RowKit

/-! ### lists of roots -/
/-- The roots of s, rising. -/
def Rv (w : World) (o : Value) (s : Pl) : Prop := ∃ A n c rs, o = .slice A n c ∧ Pt w A n c rs ∧ Pl.Rof s rs ∧ rs.Pairwise (· < ·)
theorem Rv.below {w w' : World} {o : Value} {s : Pl} (h : Rv w o s) (hb : Below w.heap.size w w') : Rv w' o s := by
  obtain ⟨A, n, c, rs, e, h1, h2⟩ := h
  exact ⟨A, n, c, rs, e, h1.below hb, h2⟩
theorem Rv.new {w : World} {o : Value} {s : Pl} (h : Rv w o s) (x : Obj) : Rv (w.alloc x) o s := h.below ((Below.refl _ w).alloc (Nat.le_refl _) _)
section
variable {w : World} {o o2 : Value} {s : Pl} {d k : Nat}
/-- Numbers, modulo the prime, rising, each once. -/
def Sv (w : World) (o : Value) (l : List Nat) : Prop := ∃ A n c L, o = .slice A n c ∧ Pt w A n c L ∧ Srtd l l.length L
theorem Sv.below {w w' : World} {o : Value} {l : List Nat} (h : Sv w o l) (hb : Below w.heap.size w w') : Sv w' o l := by
  obtain ⟨A, n, c, L, e, h1, h2⟩ := h
  exact ⟨A, n, c, L, e, h1.below hb, h2⟩
theorem Sv.new {w : World} {o : Value} {l : List Nat} (h : Sv w o l) (x : Obj) : Sv (w.alloc x) o l := h.below ((Below.refl _ w).alloc (Nat.le_refl _) _)
/-- The roots are the numbers. -/
def Ro (s : Pl) (l : List Nat) : Prop := ∀ x, Pl.val s (Fld.to x) = 0 ↔ ∃ j, j < l.length ∧ Fld.to x = Pl.co l j
end
theorem prodR_root : ∀ (l : List Nat) (x : Fld.F), Pl.val (Pl.prodR l) x = 0 ↔ ∃ j, j < l.length ∧ x = Pl.co l j
  | [], x => ⟨fun h => absurd ((Pl.val_C 1 x).symm.trans h) Fld.one_ne, fun ⟨j, h, _⟩ => absurd h (Nat.not_lt_zero j)⟩
  | r :: l, x => by
    show Pl.val (Pl.lin (Fld.to r) * Pl.prodR l) x = 0 ↔ _
    rw [Pl.val_mul (Pl.Po.lin _) (Pl.Po.prodR l), Fld.mul_eq_zero, prodR_root l x, Pl.val_lin]
    constructor
    · rintro (h | ⟨j, h1, h2⟩)
      · exact ⟨0, by simp, by show x = Fld.to r; grind⟩
      · exact ⟨j + 1, by simp; omega, h2⟩
    · rintro ⟨j, h1, h2⟩
      cases j with
      | zero => left; have h3 : x = Fld.to r := h2; grind
      | succ j => right; exact ⟨j, by simp at h1; omega, h2⟩

end Go.Proofs.Ythnbkbmhlalpaaa

/-
  PolyLagrange: From has the values that were told, and a lesser degree than there are; a polynomial's own values lead back to it.
-/
namespace Go.Proofs.Ythnbkbmhlalpaaa
open Go.RowKit

/-! ### two lists that grow beside each other -/
/-- A list of its own, and its block. -/
def Gb (B : Nat) (w : World) (o : Value) (L : List Nat) : Prop := ∃ A c, o = .slice A L.length c ∧ w.ownsRow B 22 1 o L.length (u64s L)
theorem Gb.gl {B : Nat} {w : World} {o : Value} {L : List Nat} (h : Gb B w o L) : Gl B w o L := by
  obtain ⟨A, c, rfl, h1⟩ := h
  exact ⟨A, c, rfl, h1⟩
theorem Gb.nil (B : Nat) (w : World) : Gb B w (.slice none 0 0) [] := ⟨none, 0, rfl, World.ownsRow_nil w B 22 1⟩
theorem Gb.below {B : Nat} {w w' : World} {o : Value} {L : List Nat} (h : Gb B w o L) (hb : Below w.heap.size w w') : Gb B w' o L := by
  obtain ⟨A, c, e, h1⟩ := h
  exact ⟨A, c, e, own_below h1 hb⟩
/-- They share no memory. -/
def Apart (a b : Value) : Prop := ∀ k, some k = a.ownBlock → some k ≠ b.ownBlock
theorem Apart.symm {a b : Value} (h : Apart a b) : Apart b a := fun k h1 h2 => h k h2 h1
theorem Gb.grown {B : Nat} {w w' : World} {o u : Value} {L : List Nat} (h : Gb B w o L) (hg : w.grownBy w' u.ownBlock) (ha : Apart o u) : Gb B w' o L := by
  obtain ⟨A, c, e, h1⟩ := h
  exact ⟨A, c, e, own_kept h1 fun k hk hl => hg.block k hl (ha k hk)⟩
theorem push_own {w : World} {lo : Nat} {v : Value} {old : List Nat} (x : Nat) (h : Gb lo w v old) (hlo : lo ≤ w.heap.size) (hlen : old.length + 1 ≤ 10000000) :
    ∃ g c w1, (Builtin.append_ #[23, 23] 23 #[v, .slice (some ⟨w.heap.size, 0, none⟩) 1 1]).run Try.prog (w.alloc (.cells #[.int .u64 (x : Int)] 22)) = .ok (.slice (some ⟨g, 0, none⟩) (old.length + 1) c) w1 ∧
      w1.ownsRow lo 22 1 (.slice (some ⟨g, 0, none⟩) (old.length + 1) c) (old.length + 1) (u64s (old ++ [x])) ∧ (w.alloc (.cells #[.int .u64 (x : Int)] 22)).grownBy w1 v.ownBlock ∧ (some g = v.ownBlock ∨ w.heap.size < g) := by
  obtain ⟨A0, c0, e0, h⟩ := h
  obtain ⟨i0, hi, hz0, hz1, hz2⟩ := info_parts info_u64
  have hown : (w.alloc (.cells #[.int .u64 (x : Int)] 22)).ownsRow lo 22 1 v old.length (u64s old) := h.alloc _
  have hnews : ∀ j u, [Value.int .u64 (x : Int)][j]? = some u → (w.alloc (.cells #[.int .u64 (x : Int)] 22)).cell? ((⟨w.heap.size, 0, none⟩ : Addr).add j) = some u := cell_one_new _ _ _
  have hsz : (w.alloc (.cells #[.int .u64 (x : Int)] 22)).heap.size = w.heap.size + 1 := by simp
  obtain ⟨v', w', hr, h2, h3, h4⟩ := run_append_own (P := Try.prog) (w := w.alloc (.cells #[.int .u64 (x : Int)] 22)) lo 23 23 22 i0 (.int .u64 0) 1 8 Try.underlying23 hi hz0 hz1 hz2 rfl (by decide) v old.length (u64s old) hown
    ⟨w.heap.size, 0, none⟩ 1 1 [.int .u64 (x : Int)] rfl hnews (by simp [Value.oneCell']) (by simp [maxLen]; omega) (by omega) (by omega)
  rcases h2.2 with ⟨rfl, e0⟩ | ⟨g, cap, cur, rfl, h5⟩
  · omega
  · have hgo : some g = v.ownBlock ∨ w.heap.size < g := by
      rcases hown.2 with ⟨rfl, e0⟩ | ⟨g0, cap0, cur0, rfl, b1, b2, b3, b4, b5, b6⟩
      · have hr2 := run_append_nil (P := Try.prog) (w := w.alloc (.cells #[.int .u64 (x : Int)] 22)) 23 23 22 i0 (.int .u64 0) Try.underlying23 hi hz0 ⟨w.heap.size, 0, none⟩ 1 1 [.int .u64 (x : Int)] (by rw [hz1]; rfl) hnews (by omega) (by omega) (by rw [hz2]; omega)
        rw [hr2, hsz] at hr
        injection hr with hv _
        injection hv with hv _ _
        injection hv with hv
        injection hv with hv
        right; omega
      · by_cases hroom : old.length + 1 ≤ cap0
        · have hr2 := run_append_room (P := Try.prog) (w := w.alloc (.cells #[.int .u64 (x : Int)] 22)) 23 23 22 i0 Try.underlying23 hi g0 old.length cap0 cur0 b2 ⟨w.heap.size, 0, none⟩ 1 1 [.int .u64 (x : Int)] (by rw [hz1]; rfl) hnews (by simp [Value.oneCell']) hroom (by rw [hz1, b5]; simp; omega)
          rw [hr2] at hr
          injection hr with hv _
          injection hv with hv _ _
          injection hv with hv
          injection hv with hv
          left; rw [hv]; rfl
        · have hr2 := run_append_grow (P := Try.prog) (w := w.alloc (.cells #[.int .u64 (x : Int)] 22)) 23 23 22 i0 (.int .u64 0) Try.underlying23 hi hz0 ⟨g0, 0, none⟩ old.length cap0 (u64s old) (by rw [hz1]; exact hown.1) (hown.cells (g := g0) rfl) ⟨w.heap.size, 0, none⟩ 1 1 [.int .u64 (x : Int)] (by rw [hz1]; rfl) hnews (by omega) (by omega) (by rw [hz2]; exact growslice_fits (by omega) (by omega))
          rw [hr2, hsz] at hr
          injection hr with hv _
          injection hv with hv _ _
          injection hv with hv
          injection hv with hv
          right; omega
    exact ⟨g, cap, w', hr, by rw [u64s_snoc]; exact h2, h3, hgo⟩
theorem wpList_push2 {ops : Array Oper} {rest : List Oper} {o : Oper} {a : Act} {Q : Exit → Act → World → Prop} {w : World} (hgd : o.guard = none) (s x : Operand)
    (ho : o.op = .call { callee := .builtin .append, args := #[s, x], argTypes := #[23, 23] }) (hty : o.type = 23) (B v : Nat) (L L2 : List Nat) (u u2 : Value) (hg : Gb B w u L) (hg2 : Gb B w u2 L2) (hap : Apart u u2) (hs : a.eval s = u) (hx : a.eval x = .slice (some ⟨w.heap.size, 0, none⟩) 1 1) (hk : L.length + 1 ≤ 10000000) (hB : B ≤ w.heap.size)
    (h : ∀ z w1, Gb B w1 z (L ++ [v]) → Gb B w1 u2 L2 → Apart z u2 → Below B w w1 → wpList Try.prog ops Q rest (a.put o.dst z) w1) : wpList Try.prog ops Q (o :: rest) a (w.alloc (.cells #[.int .u64 (v : Int)] 22)) := by
  obtain ⟨g, c, w1, hr, h1, h2, h3⟩ := push_own v hg hB hk
  refine wpList_plain hgd fun K hK => ?_
  unfold Oper.wp execOp
  simp only [ho, hty, resolve, invoke, builtin, Sem.run_bind, Sem.run_pure, Result.andThen_ok, List.map_toArray, List.map_cons, List.map_nil, hs, hx, hr]
  refine hK _ _ (h _ w1 ⟨_, c, by rw [List.length_append]; rfl, by rw [List.length_append]; exact h1⟩ ((hg2.below ((Below.refl _ w).alloc (Nat.le_refl _) _)).grown h2 hap.symm) ?_ ?_)
  · intro k hk1 hk2
    have e : k = g := by injection hk1
    subst e
    rcases h3 with h3 | h3
    · exact hap k h3 hk2
    · obtain ⟨A2, c2, _, hrow2⟩ := hg2
      have := (own_ge hrow2 hk2).2
      omega
  · exact ((Below.refl B w).alloc hB _).grown h2 (by simp; omega) (fun j e => (own_ge (by obtain ⟨A0, c0, _, hrow⟩ := hg; exact hrow) e.symm).1)

theorem rise_dis {L : List Nat} {n : Nat} (hn : n = L.length) (h : L.Pairwise (· < ·)) (hs : Pl.Sm L) : Pl.Dis L n := fun i j hij hj e => by
  have h1 := rise_lt h hij (by omega)
  have h2 := Pl.to_inj' (hs.get i) (hs.get j) e
  omega
theorem fromd_v {w : World} {A A2 : Option Addr} {n c c2 : Nat} {xs ys : List Nat} (h1 : Pt w A n c xs) (h2 : Pt w A2 n c2 ys) (hx : Pl.Sm xs) (hy : Pl.Sm ys) (hn : n ≤ 1000) (hd : Pl.Dis xs n) :
    Calls Try.prog 23 #[.slice A n c, .slice A2 n c2] w fun e w' => (∃ z s, e = .returned z ∧ Tv w' z s n ∧ Pl.Fi xs ys n s) ∧ Below w.heap.size w w' := by
  refine (from_same A A2 n c c2 xs ys w h1.1 h2.1 (by omega) hx.big hy.big h1.2.1 h2.2.1).mono ?_
  rintro e w' ⟨⟨g1, _⟩, hb⟩
  obtain ⟨s, hp, hs⟩ := g1 hd
  obtain ⟨z, rfl, hz⟩ := Tv.mk hp hs.1
  exact ⟨⟨z, s, rfl, hz, hs⟩, hb⟩
theorem Gb.list {B : Nat} {w : World} {o : Value} {L : List Nat} {n : Nat} (h : Gb B w o L) (hn : n = L.length) : ∃ A c, o = .slice A n c ∧ Pt w A n c L := by
  subst hn
  obtain ⟨A, c, rfl, hp, _⟩ := h.gl.pt
  exact ⟨A, c, rfl, hp⟩

end Go.Proofs.Ythnbkbmhlalpaaa
