/-
  The reference's products of polynomials.
-/
import Derived.Test.YtalljoneflepiaaRpb
namespace Go.Proofs.Ytalljoneflepiaa
open Go.RowKit

/-- The sum of the first j products that stand at n together. -/
def sm (a b : List Nat) (n : Nat) : Nat → Nat
  | 0 => 0
  | j + 1 => Fld.add (sm a b n j) (Fld.mul (a[j]?.getD 0) (b[n - j]?.getD 0))
namespace Pl
theorem z1 (x : Fld.F) : 0 + x * 0 = 0 := by rw [Fin.mul_zero, Fin.add_zero]
theorem z2 (x : Fld.F) : 0 + 0 * x = 0 := by rw [Fin.zero_mul, Fin.add_zero]
def sumf (g : Nat → Fld.F) : Nat → Fld.F
  | 0 => 0
  | j + 1 => sumf g j + g j
theorem sumf_front (g : Nat → Fld.F) : ∀ j, sumf g (j + 1) = g 0 + sumf (fun i => g (i + 1)) j
  | 0 => by show 0 + g 0 = g 0 + 0; grind
  | j + 1 => by rw [sumf, sumf_front g j]; show _ = g 0 + (sumf (fun i => g (i + 1)) j + g (j + 1)); grind
theorem sumf_mul : ∀ (n : Nat) (s t : Pl), sumf (fun i => s i * t (n - i)) (n + 1) = (s * t) n
  | 0, s, t => by rw [sumf_front, mul_0]; show s 0 * t 0 + 0 = _; grind
  | n + 1, s, t => by
    rw [sumf_front, mul_s, ← sumf_mul n (tl s) t]
    show s 0 * t (n + 1) + sumf (fun i => s (i + 1) * t (n + 1 - (i + 1))) (n + 1) = s 0 * t (n + 1) + sumf (fun i => s (i + 1) * t (n - i)) (n + 1)
    congr 2
    funext i
    rw [show n + 1 - (i + 1) = n - i by omega]
theorem sm_sumf (a b : List Nat) (n : Nat) : ∀ j, Fld.to (sm a b n j) = sumf (fun i => co a i * co b (n - i)) j
  | 0 => rfl
  | j + 1 => by rw [sm, Fld.to_addF, Fld.to_mulF, sm_sumf a b n j]; rfl
theorem co_prod (a b : List Nat) (K : Nat) (hK : K = a.length + b.length - 1) : co (tab (fun n => sm a b n (n + 1)) K) = co a * co b := by
  refine co_tab_all ?_ fun i _ => by rw [sm_sumf]; exact sumf_mul i _ _
  rcases Nat.eq_zero_or_pos a.length with h | h
  · rw [List.eq_nil_of_length_eq_zero h, co_nil, zero_mul]; exact Lt.zero _
  · rcases Nat.eq_zero_or_pos b.length with h' | h'
    · rw [List.eq_nil_of_length_eq_zero h', co_nil, mul_zero]; exact Lt.zero _
    · obtain ⟨n, hn⟩ : ∃ n, a.length = n + 1 := ⟨a.length - 1, by omega⟩
      obtain ⟨m, hm⟩ : ∃ m, b.length = m + 1 := ⟨b.length - 1, by omega⟩
      intro i hi
      rw [← sumf_mul i]
      have h0 : ∀ j, sumf (fun x => co a x * co b (i - x)) j = 0 := by
        intro j
        induction j with
        | zero => rfl
        | succ j ih =>
          rw [sumf, ih]
          rcases Nat.lt_or_ge j (n + 1) with h1 | h1
          · rw [Lt.co b (i - j) (by omega)]; exact z1 _
          · rw [Lt.co a j (by omega)]; exact z2 _
      exact h0 _
end Pl

set_option maxRecDepth 100000 in
set_option maxHeartbeats 2000000 in
theorem rmul_poly (A A2 : Option Addr) (n ca m cb : Nat) (a b : List Nat) (w : World) (hn : n = a.length) (hm : m = b.length) (hn9 : n ≤ 100000) (hm9 : m ≤ 100000) (hA : Rd w.heap.size w A (u64s a)) (hA2 : Rd w.heap.size w A2 (u64s b)) :
    Calls Try.prog 19 #[.slice A n ca, .slice A2 m cb] w fun e w' => Poly w.heap.size (Pl.co a * Pl.co b) e w' ∧ Below w.heap.size w w' := by
  obtain ⟨K, hK⟩ : ∃ K, K = n + m - 1 := ⟨_, rfl⟩
  obtain ⟨f, hf⟩ : ∃ f : Nat → Nat, f = fun i => sm a b i (i + 1) := ⟨_, rfl⟩
  have hco : Pl.co (Pl.tab f K) = Pl.co a * Pl.co b := by rw [hf]; exact Pl.co_prod a b K (by omega)
  have hK9 : K ≤ 200000 := by omega
  have HCO := Lib.hid hco
  have HF := Lib.hid hf
  have HN := Lib.hid hn
  have HM := Lib.hid hm
  have HA := Lib.hid hA
  have HA2 := Lib.hid hA2
  have HK := Lib.hid hK
  have hg0 := Gl.nil w.heap.size w
  have hb0 : Below w.heap.size w w := Below.refl _ _
  clear hn hm hA hA2 hf hco hK
  go_enter Try.func19, Try.ntmps19
  go_wp2
  go_loopw [5, 6] (fun o i wr => ∃ k : Nat, i = .int .i64 (k : Int) ∧ k ≤ K ∧ Gl w.heap.size wr o (Pl.tab f k) ∧ Below w.heap.size w wr) (fun _ i _ => K - (intOf i).toNat)
  case atStart => exact ⟨0, rfl, Nat.zero_le _, hg0, hb0⟩
  case round =>
    obtain ⟨k, rfl, hk, hg, hb⟩ := hrel
    have HG := Lib.hid hg
    have hsz := hb.size
    clear hg hg0 hb0
    by_cases hlt : k < K
    · have h1 : k + 1 < n + m := by have := HK.out; omega
      have h1I : (k : Int) + 1 < (n : Int) + (m : Int) := by omega
      obtain ⟨wo, hwo⟩ : ∃ wo, wo = wr := ⟨_, rfl⟩
      rw [← hwo] at HG hb hsz ⊢
      clear hwo
      have hbo : Below wo.heap.size wo wo := Below.refl _ _
      go_wp2
      go_loopw [7, 8] (fun o i wr => ∃ j : Nat, i = .int .i64 (j : Int) ∧ j ≤ k + 1 ∧ o = .int .u64 (sm a b k j : Nat) ∧ Below wo.heap.size wo wr) (fun _ i _ => k + 1 - (intOf i).toNat)
      case atStart => exact ⟨0, rfl, Nat.zero_le _, rfl, hbo⟩
      case round =>
        obtain ⟨j, rfl, hj, rfl, hbj⟩ := hrel
        have hszj := hbj.size
        have hb2 := hb.trans (hbj.mono hsz)
        by_cases hlt2 : j ≤ k
        · obtain ⟨d, hd⟩ : ∃ d, d = k - j := ⟨_, rfl⟩
          have hdI : (k : Int) - (j : Int) = (d : Int) := by omega
          have hra := rat_any A n ca j a wr HN.out (HA.out.at_world hb2)
          have hrb := rat_any A2 m cb d b wr HM.out (HA2.out.at_world hb2)
          have hsm : sm a b k (j + 1) = Fld.add (sm a b k j) (Fld.mul (a[j]?.getD 0) (b[d]?.getD 0)) := by rw [hd]; rfl
          obtain ⟨x, hx⟩ : ∃ x, x = a[j]?.getD 0 := ⟨_, rfl⟩
          obtain ⟨y, hy⟩ : ∃ y, y = b[d]?.getD 0 := ⟨_, rfl⟩
          obtain ⟨s, hs⟩ : ∃ s, s = sm a b k j := ⟨_, rfl⟩
          rw [← hx] at hra hsm
          rw [← hy] at hrb hsm
          rw [← hs] at hsm ⊢
          have hrm := rmul_any x y wr
          have hrs := fun W => radd_any s (Fld.mul x y) W
          obtain ⟨z, hz⟩ : ∃ z, z = Fld.mul x y := ⟨_, rfl⟩
          rw [← hz] at hrm hrs hsm
          rw [← hsm] at hrs
          have HRA := Lib.hid hra
          have HRB := Lib.hid hrb
          have HRM := Lib.hid hrm
          have HRS := Lib.hid hrs
          clear hd hra hrb hsm hx hy hs hz hrm hrs
          go_wp2_with fail
          refine HRA.out.mono ?_
          rintro e w' ⟨rfl, rfl⟩
          go_wp2_with fail
          refine HRB.out.mono ?_
          rintro e w' ⟨rfl, rfl⟩
          go_wp2_with fail
          refine HRM.out.mono ?_
          rintro e w1 ⟨rfl, hb3⟩
          go_wp2_with fail
          refine (HRS.out _).mono ?_
          rintro e w' ⟨rfl, rfl⟩
          go_wp2
          go_roundw
          case rel => exact ⟨j + 1, by go_num, by omega, rfl, hbj.trans (hb3.mono hszj)⟩
          case measure => simp [intOf]; omega
        · obtain rfl : j = k + 1 := by omega
          have hgj := HG.out.below hbj
          have HGJ := Lib.hid hgj
          have hfk : sm a b k (k + 1) = f k := by rw [HF.out]
          have htk := Pl.tab_succ f k
          obtain ⟨z, hz⟩ : ∃ z, z = f k := ⟨_, rfl⟩
          rw [hfk, ← hz]
          rw [← hz] at htk
          have HTK := Lib.hid htk
          have HLEN := Lib.hid (show (Pl.tab f k).length ≤ 200000 by rw [Pl.tab_len]; omega)
          have hszw := hb2.size
          clear hgj hfk htk hz hj
          go_wp2_with (at_builtin; refine wpList_push64 rfl _ _ rfl w.heap.size z _ _ HGJ.out rfl rfl (Nat.le_trans HLEN.out (by omega)) hszw ?_; intro u w1 hz1 hb1; have HZ1 := Lib.hid hz1; clear hz1)
          go_roundw
          case rel => exact ⟨k + 1, by go_num, hlt, by rw [HTK.out]; exact HZ1.out, hb2.trans hb1⟩
          case measure => simp [intOf]; omega
    · have hkK : k = K := by omega
      subst hkK
      have h1 : ¬ k + 1 < n + m := by have := HK.out; omega
      have h1I : ¬ (k : Int) + 1 < (n : Int) + (m : Int) := by omega
      obtain ⟨A1, c1, rfl, hp1, hB1⟩ := HG.out.pt
      have hl := Pl.tab_len f k
      obtain ⟨L, hL⟩ : ∃ L, L = Pl.tab f k := ⟨_, rfl⟩
      have hco := HCO.out
      rw [← hL] at hp1 hl hco ⊢
      obtain ⟨nl, hnl⟩ : ∃ nl, nl = L.length := ⟨_, rfl⟩
      rw [← hnl] at hp1 hl ⊢
      have htr := rtrim_any A1 nl c1 L wr hnl (by omega) hp1.2.1
      rw [hco] at htr
      have HTR := Lib.hid htr
      clear hp1 hl hL hco hnl htr hB1 HG
      go_wp2_with fail
      refine HTR.out.mono ?_
      rintro e w' ⟨⟨A3, n3, c3, l3, rfl, hp3, hi3, hb3⟩, hb4⟩
      have H3 := Lib.hid (And.intro hp3 (And.intro hi3 hb3))
      clear hp3 hi3 hb3
      go_wp2
      go_ret
      exact ⟨⟨A3, n3, c3, l3, rfl, H3.out.1, H3.out.2.1, fun bl off e => Nat.le_trans hsz (H3.out.2.2 bl off e)⟩, hb.trans (hb4.mono hsz)⟩
end Go.Proofs.Ytalljoneflepiaa
