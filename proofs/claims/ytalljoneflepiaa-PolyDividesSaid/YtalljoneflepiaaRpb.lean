/-
  The reference's sums of polynomials, products with a number, and values.
-/
import Derived.Test.YtalljoneflepiaaRpa
import Derived.Test.YtalljoneflepiaaPrf
namespace Go.Proofs.Ytalljoneflepiaa
open Go.RowKit

set_option maxHeartbeats 1000000 in
theorem rat_any (A : Option Addr) (n ca i : Nat) (a : List Nat) (w : World) (hn : n = a.length) (hA : Rd w.heap.size w A (u64s a)) :
    Calls Try.prog 46 #[.slice A n ca, .int .i64 (i : Int)] w fun e w' => e = .returned (.int .u64 ((a[i]?.getD 0 : Nat) : Int)) ∧ w = w' := by
  by_cases h : i < n
  · obtain ⟨b, off, rfl, hb, hc⟩ := hA.num (k := i) (by rw [← hn]; exact h)
    obtain ⟨x, hx⟩ : ∃ x, x = a[i]?.getD 0 := ⟨_, rfl⟩
    rw [← hx] at hc ⊢
    clear hx hA hn
    go_enter Try.func46, Try.ntmps46
    go_wp2
    go_ret
    exact ⟨rfl, rfl⟩
  · rw [List.getElem?_eq_none (by rw [← hn]; omega)]
    clear hA hn
    go_enter Try.func46, Try.ntmps46
    go_wp2
    go_ret
    exact ⟨rfl, rfl⟩

namespace Pl
theorem co_tab_all {f : Nat → Nat} {n : Nat} {s : Pl} (hl : Lt s n) (h : ∀ i, i < n → Fld.to (f i) = s i) : co (tab f n) = s := ext fun i => by
  rw [co_tab]
  by_cases hi : i < n
  · rw [if_pos hi, h i hi]
  · rw [if_neg hi, hl i (by omega)]
end Pl
theorem Rd.at_world {w wr : World} {A : Option Addr} {vs : List Value} (h : Rd w.heap.size w A vs) (hb : Below w.heap.size w wr) : Rd wr.heap.size wr A vs := (h.below hb).more hb.size

set_option maxRecDepth 100000 in
set_option maxHeartbeats 2000000 in
theorem radd_poly (A A2 : Option Addr) (n ca m cb : Nat) (a b : List Nat) (w : World) (hn : n = a.length) (hm : m = b.length) (hn9 : n ≤ 100000) (hm9 : m ≤ 100000) (hA : Rd w.heap.size w A (u64s a)) (hA2 : Rd w.heap.size w A2 (u64s b)) :
    Calls Try.prog 17 #[.slice A n ca, .slice A2 m cb] w fun e w' => Poly w.heap.size (Pl.co a + Pl.co b) e w' ∧ Below w.heap.size w w' := by
  obtain ⟨K, hK⟩ : ∃ K, K = max n m := ⟨_, rfl⟩
  have hK1 : n ≤ K := by omega
  have hK2 : m ≤ K := by omega
  have hK3 : K ≤ n ∨ K ≤ m := by omega
  obtain ⟨f, hf⟩ : ∃ f : Nat → Nat, f = fun i => Fld.add (a[i]?.getD 0) (b[i]?.getD 0) := ⟨_, rfl⟩
  have hco : Pl.co (Pl.tab f K) = Pl.co a + Pl.co b := by
    refine Pl.co_tab_all (((Pl.Lt.co a).mono (by omega)).add ((Pl.Lt.co b).mono (by omega))) fun i _ => ?_
    rw [hf]
    exact Fld.to_addF _ _
  have HCO := Lib.hid hco
  have HF := Lib.hid hf
  have HN := Lib.hid hn
  have HM := Lib.hid hm
  have HA := Lib.hid hA
  have HA2 := Lib.hid hA2
  have hg0 := Gl.nil w.heap.size w
  have hb0 : Below w.heap.size w w := Below.refl _ _
  clear hK hn hm hA hA2 hf hco
  go_enter Try.func17, Try.ntmps17
  go_wp2
  go_loopw [5, 6] (fun o i wr => ∃ k : Nat, i = .int .i64 (k : Int) ∧ k ≤ K ∧ Gl w.heap.size wr o (Pl.tab f k) ∧ Below w.heap.size w wr) (fun _ i _ => K - (intOf i).toNat)
  case atStart => exact ⟨0, rfl, Nat.zero_le _, hg0, hb0⟩
  case round =>
    obtain ⟨k, rfl, hk, hg, hb⟩ := hrel
    have HG := Lib.hid hg
    have hsz := hb.size
    clear hg hg0 hb0
    by_cases hlt : k < K
    · have htk := Pl.tab_succ f k
      have hlen := Pl.tab_len f k
      have hra := rat_any A n ca k a wr HN.out (HA.out.at_world hb)
      have hrb := rat_any A2 m cb k b wr HM.out (HA2.out.at_world hb)
      have hfk : f k = Fld.add (a[k]?.getD 0) (b[k]?.getD 0) := by rw [HF.out]
      obtain ⟨x, hx⟩ : ∃ x, x = a[k]?.getD 0 := ⟨_, rfl⟩
      obtain ⟨y, hy⟩ : ∃ y, y = b[k]?.getD 0 := ⟨_, rfl⟩
      rw [← hx] at hra hfk
      rw [← hy] at hrb hfk
      have hrs := radd_any x y wr
      obtain ⟨z, hz⟩ : ∃ z, z = f k := ⟨_, rfl⟩
      rw [← hfk, ← hz] at hrs
      rw [← hz] at htk
      have HTK := Lib.hid htk
      have HRA := Lib.hid hra
      have HRB := Lib.hid hrb
      have HRS := Lib.hid hrs
      have HLEN := Lib.hid (show (Pl.tab f k).length ≤ 100000 by rw [hlen]; omega)
      clear hx hy hz hfk htk hra hrb hrs hlen
      have hcase : (k < n) ∨ (¬ k < n ∧ k < m) := by omega
      rcases hcase with h1 | ⟨h1, h2⟩
      all_goals
        go_wp2_with fail
        refine HRA.out.mono ?_
        rintro e w' ⟨rfl, rfl⟩
        go_wp2_with fail
        refine HRB.out.mono ?_
        rintro e w' ⟨rfl, rfl⟩
        go_wp2_with fail
        refine HRS.out.mono ?_
        rintro e w' ⟨rfl, rfl⟩
        go_wp2_with (at_builtin; refine wpList_push64 rfl _ _ rfl w.heap.size z _ _ HG.out rfl rfl (Nat.le_trans HLEN.out (by omega)) hsz ?_; intro u w1 hz1 hb1; have HZ1 := Lib.hid hz1; clear hz1)
        go_roundw
        case rel => exact ⟨k + 1, by go_num, hlt, by rw [HTK.out]; exact HZ1.out, hb.trans hb1⟩
        case measure => simp [intOf]; omega
    · have hkK : k = K := by omega
      subst hkK
      have h1 : ¬ k < n := by omega
      have h2 : ¬ k < m := by omega
      obtain ⟨A1, c1, rfl, hp1, hB1⟩ := HG.out.pt
      have hl := Pl.tab_len f k
      obtain ⟨L, hL⟩ : ∃ L, L = Pl.tab f k := ⟨_, rfl⟩
      have hco := HCO.out
      rw [← hL] at hp1 hl hco ⊢
      obtain ⟨nl, hnl⟩ : ∃ nl, nl = L.length := ⟨_, rfl⟩
      rw [← hnl] at hp1 hl ⊢
      have htr := rtrim_any A1 nl c1 L wr hnl (by omega) hp1.2.1
      rw [hco] at htr
      have HTR := Lib.hid htr
      clear hp1 hl hL hco hnl htr hB1 HG
      go_wp2_with fail
      refine HTR.out.mono ?_
      rintro e w' ⟨⟨A3, n3, c3, l3, rfl, hp3, hi3, hb3⟩, hb4⟩
      have H3 := Lib.hid (And.intro hp3 (And.intro hi3 hb3))
      clear hp3 hi3 hb3
      go_wp2
      go_ret
      exact ⟨⟨A3, n3, c3, l3, rfl, H3.out.1, H3.out.2.1, fun bl off e => Nat.le_trans hsz (H3.out.2.2 bl off e)⟩, hb.trans (hb4.mono hsz)⟩

set_option maxRecDepth 100000 in
set_option maxHeartbeats 2000000 in
theorem rscale_poly (A : Option Addr) (n ca t : Nat) (a : List Nat) (w : World) (hn : n = a.length) (hn9 : n ≤ 100000) (hA : Rd w.heap.size w A (u64s a)) :
    Calls Try.prog 34 #[.slice A n ca, .int .u64 (t : Int)] w fun e w' => Poly w.heap.size (Pl.C (Fld.to t) * Pl.co a) e w' ∧ Below w.heap.size w w' := by
  obtain ⟨f, hf⟩ : ∃ f : Nat → Nat, f = fun i => Fld.mul (a[i]?.getD 0) t := ⟨_, rfl⟩
  have hco : Pl.co (Pl.tab f n) = Pl.C (Fld.to t) * Pl.co a := by
    refine Pl.co_tab_all (Pl.Lt.smul _ ((Pl.Lt.co a).mono (by omega))) fun i _ => ?_
    rw [hf, Pl.C_mul_at]
    show Fld.to (Fld.mul _ _) = _
    rw [Fld.to_mulF, Pl.co_at]
    grind
  have HCO := Lib.hid hco
  have HF := Lib.hid hf
  have HN := Lib.hid hn
  have HA := Lib.hid hA
  have hg0 := Gl.nil w.heap.size w
  have hb0 : Below w.heap.size w w := Below.refl _ _
  clear hn hA hf hco
  go_enter Try.func34, Try.ntmps34
  go_wp2
  go_loopw [5, 6] (fun o i wr => ∃ k : Nat, i = .int .i64 (k : Int) ∧ k ≤ n ∧ Gl w.heap.size wr o (Pl.tab f k) ∧ Below w.heap.size w wr) (fun _ i _ => n - (intOf i).toNat)
  case atStart => exact ⟨0, rfl, Nat.zero_le _, hg0, hb0⟩
  case round =>
    obtain ⟨k, rfl, hk, hg, hb⟩ := hrel
    have HG := Lib.hid hg
    have hsz := hb.size
    clear hg hg0 hb0
    by_cases hlt : k < n
    · have htk := Pl.tab_succ f k
      have hlen := Pl.tab_len f k
      obtain ⟨bl, off, e1, hbb, hcl⟩ := HA.out.num (k := k) (by rw [← HN.out]; exact hlt)
      have hcr := (hb.cell (p := ⟨bl, off + k, none⟩) hbb).trans hcl
      have hfk : f k = Fld.mul (a[k]?.getD 0) t := by rw [HF.out]
      obtain ⟨x, hx⟩ : ∃ x, x = a[k]?.getD 0 := ⟨_, rfl⟩
      rw [← hx] at hcr hfk
      have hrs := rmul_any x t wr
      obtain ⟨z, hz⟩ : ∃ z, z = f k := ⟨_, rfl⟩
      rw [← hfk, ← hz] at hrs
      rw [← hz] at htk
      have HTK := Lib.hid htk
      have HRS := Lib.hid hrs
      have HLEN := Lib.hid (show (Pl.tab f k).length ≤ 100000 by rw [hlen]; omega)
      clear hx hz hfk htk hrs hlen hcl
      subst e1
      go_wp2_with fail
      refine HRS.out.mono ?_
      rintro e w2 ⟨rfl, hb2⟩
      have hbw2 : Below w.heap.size w w2 := hb.trans (hb2.mono hsz)
      have hsz2 := hbw2.size
      have HG2 := Lib.hid (HG.out.below hb2)
      go_wp2_with (at_builtin; refine wpList_push64 rfl _ _ rfl w.heap.size z _ _ HG2.out rfl rfl (Nat.le_trans HLEN.out (by omega)) hsz2 ?_; intro u w1 hz1 hb1; have HZ1 := Lib.hid hz1; clear hz1)
      go_roundw
      case rel => exact ⟨k + 1, by go_num, hlt, by rw [HTK.out]; exact HZ1.out, hbw2.trans hb1⟩
      case measure => simp [intOf]; omega
    · have hkK : k = n := by omega
      subst hkK
      obtain ⟨A1, c1, rfl, hp1, hB1⟩ := HG.out.pt
      have hl := Pl.tab_len f k
      obtain ⟨L, hL⟩ : ∃ L, L = Pl.tab f k := ⟨_, rfl⟩
      have hco := HCO.out
      rw [← hL] at hp1 hl hco ⊢
      obtain ⟨nl, hnl⟩ : ∃ nl, nl = L.length := ⟨_, rfl⟩
      rw [← hnl] at hp1 hl ⊢
      have htr := rtrim_any A1 nl c1 L wr hnl (by omega) hp1.2.1
      rw [hco] at htr
      have HTR := Lib.hid htr
      clear hp1 hl hL hco hnl htr hB1 HG
      go_wp2_with fail
      refine HTR.out.mono ?_
      rintro e w' ⟨⟨A3, n3, c3, l3, rfl, hp3, hi3, hb3⟩, hb4⟩
      have H3 := Lib.hid (And.intro hp3 (And.intro hi3 hb3))
      clear hp3 hi3 hb3
      go_wp2
      go_ret
      exact ⟨⟨A3, n3, c3, l3, rfl, H3.out.1, H3.out.2.1, fun bl off e => Nat.le_trans hsz (H3.out.2.2 bl off e)⟩, hb.trans (hb4.mono hsz)⟩

theorem hv_drop (x : Nat) (a : List Nat) (k : Nat) (h : k < a.length) : Pl.hv x (a.drop k) = Fld.add (Fld.mul (Pl.hv x (a.drop (k + 1))) x) (a[k]?.getD 0) := by
  rw [List.drop_eq_getElem_cons h, List.getElem?_eq_getElem h]; rfl

set_option maxRecDepth 100000 in
set_option maxHeartbeats 2000000 in
theorem reval_any (A : Option Addr) (n ca x : Nat) (a : List Nat) (w : World) (hn : n = a.length) (hn9 : n ≤ 100000) (hA : Rd w.heap.size w A (u64s a)) :
    Calls Try.prog 21 #[.slice A n ca, .int .u64 (x : Int)] w fun e w' => e = .returned (.int .u64 (Pl.hv x a : Nat)) ∧ Below w.heap.size w w' := by
  have HN := Lib.hid hn
  have HA := Lib.hid hA
  have hd0 : Pl.hv x (a.drop n) = 0 := by rw [List.drop_of_length_le (by omega)]; rfl
  have HD0 := Lib.hid hd0
  clear hn hA hd0
  go_enter Try.func21, Try.ntmps21
  go_wp2
  go_loopw [5, 6] (fun o i wr => ∃ k j : Nat, i = .int .i64 ((k : Int) - 1) ∧ k ≤ n ∧ o = .int .u64 (Pl.hv x (a.drop k) : Nat) ∧ wr = w.drewN j) (fun _ i _ => (intOf i + 1).toNat)
  case atStart => exact ⟨n, 0, rfl, Nat.le_refl _, by rw [HD0.out]; rfl, rfl⟩
  case round =>
    obtain ⟨k, j, rfl, hk, rfl, hwr⟩ := hrel
    have HW := Lib.hid hwr
    clear hwr
    cases k with
    | zero =>
      go_wp2
      go_ret
      exact ⟨rfl, by rw [HW.out]; exact below_drewN (Below.refl _ _) _⟩
    | succ i =>
      have e0 : ((i + 1 : Nat) : Int) - 1 = (i : Int) := by omega
      rw [e0]
      obtain ⟨b, off, e1, hbb, hcl⟩ := HA.out.num (k := i) (by rw [← HN.out]; omega)
      have hnx := hv_drop x a i (by rw [← HN.out]; omega)
      have hcl : wr.cell? ⟨b, off + i, none⟩ = some (.int .u64 ((a[i]?.getD 0 : Nat) : Int)) := by rw [HW.out]; exact hcl
      obtain ⟨y, hy⟩ : ∃ y, y = a[i]?.getD 0 := ⟨_, rfl⟩
      obtain ⟨o, ho⟩ : ∃ o, o = Pl.hv x (a.drop (i + 1)) := ⟨_, rfl⟩
      rw [← hy] at hcl hnx
      rw [← ho] at hnx ⊢
      have hq1 := fun W => rmul_quiet o x W
      obtain ⟨m, hm⟩ : ∃ m, m = Fld.mul o x := ⟨_, rfl⟩
      rw [← hm] at hq1 hnx
      have hq2 := quiet_same (radd_any m y)
      rw [← hnx] at hq2
      have q0 : (0 : Int) ≤ (i : Int) := by omega
      have q1 : (i : Int) < (n : Int) := by omega
      have HQ1 := Lib.hid hq1
      have HQ2 := Lib.hid hq2
      clear hy ho hm hnx hq1 hq2 e0
      subst e1
      go_wp2
      go_quiet ((first
        | (go_at_call 48; exact quiet_any HQ1.out)
        | (go_at_call 45; exact quiet_any HQ2.out)))
      go_wp2
      go_roundw
      case rel => exact ⟨i, _, rfl, by omega, rfl, by rw [HW.out, World.drewN_drewN]⟩
      case measure => simp [intOf]
end Go.Proofs.Ytalljoneflepiaa
