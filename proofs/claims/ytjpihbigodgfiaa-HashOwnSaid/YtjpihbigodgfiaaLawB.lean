/-
  The statements HashModulo, HashWords and HashOwn: the walks, over natural numbers and lists. No condition but what fits memory.
-/
import Derived.Test.YtjpihbigodgfiaaLawA
namespace Go.Proofs.Ytjpihbigodgfiaa
open Go.RowKit

namespace Hsh
/-- The numbers that HashModulo sets beside the given ones. -/
def mm (L : List Nat) (i : Nat) : Nat := if i % 2 = 0 then L[i]?.getD 0 % 2305843009213693951 + 2305843009213693951 else L[i]?.getD 0 % 2305843009213693951
def rowM (L : List Nat) (j : Nat) : List Nat := (List.range j).map (mm L)
theorem rowM_succ (L : List Nat) (j : Nat) : rowM L (j + 1) = rowM L j ++ [mm L j] := by simp [rowM, List.range_succ]
theorem rowM_len (L : List Nat) (j : Nat) : (rowM L j).length = j := by simp [rowM]
theorem rowM_lt (L : List Nat) (j : Nat) : ∀ x ∈ rowM L j, x < 18446744073709551616 := by
  intro x hx
  obtain ⟨i, _, rfl⟩ := List.mem_map.1 hx
  unfold mm
  split <;> omega
theorem mm_mod (L : List Nat) (i : Nat) : mm L i % 2305843009213693951 = L[i]?.getD 0 % 2305843009213693951 := by
  unfold mm
  split <;> omega
theorem rowM_mod (L : List Nat) (k : Nat) (hk : k = L.length) : (rowM L k).map (· % Fld.P) = L.map (· % Fld.P) := by
  apply List.ext_getElem
  · rw [List.length_map, List.length_map, rowM_len, hk]
  · intro i h1 h2
    rw [List.length_map] at h2
    rw [List.getElem_map, List.getElem_map]
    have e : (rowM L k)[i]'(by rw [rowM_len]; omega) = mm L i := by simp [rowM]
    rw [e]
    show mm L i % 2305843009213693951 = L[i] % 2305843009213693951
    rw [mm_mod, List.getElem?_eq_getElem h2]
    rfl
end Hsh

/-! ### HashModulo -/
set_option maxRecDepth 100000 in
set_option maxHeartbeats 2000000 in
theorem modulo_walk (s : ByteArray) (l : List Nat) (A : Option Addr) (n c : Nat) (w : World) (hn : n = l.length) (hnc : n ≤ c) (hl : ∀ x ∈ l, x < 18446744073709551616) (hA : Rd w.heap.size w A (u64s l)) (hnil : A = none → c = 0) :
    Calls Try.prog 6 #[.string s, .slice A n c] w fun e w' => e = .returned (.bool true) ∧ Below w.heap.size w w' := by
  obtain ⟨i0, hi, hz0, hz1, hz2⟩ := info_parts info_u64
  have hnums := nums_any l A n c 6 w hn hnc (by omega) hA hnil
  have HNUMS := Lib.hid hnums
  have HL := Lib.hid hl
  have HN := Lib.hid hn
  have HI := Lib.hid hi
  have HZ0 := Lib.hid hz0
  have HZ1 := Lib.hid hz1
  have HZ2 := Lib.hid hz2
  clear hnums hl hn hA hnil hi hz0 hz1 hz2
  go_enter Try.func6, Try.ntmps6
  go_wp2_with fail
  refine (short_any s 20 w (by omega)).mono ?_
  rintro e w' ⟨t, rfl, ht, rfl⟩
  go_wp2_with fail
  refine (HNUMS.out).mono ?_
  rintro e w1 ⟨A1, c1, rfl, hrow, hb1⟩
  have HK := Lib.hid (show min n 6 = (l.take 6).length by rw [List.length_take, ← HN.out, Nat.min_comm])
  obtain ⟨k, hk⟩ : ∃ k, k = min n 6 := ⟨_, rfl⟩
  have hk6 : k ≤ 6 := by omega
  rw [← hk] at HK hrow ⊢
  have HLT := Lib.hid (show ∀ x ∈ l.take 6, x < 18446744073709551616 from fun x hx => HL.out x (List.mem_of_mem_take hx))
  have HRD := Lib.hid (Rd.of_own hrow)
  obtain ⟨L, hL⟩ : ∃ L, L = l.take 6 := ⟨_, rfl⟩
  rw [← hL] at HK HLT HRD
  obtain ⟨B1, hB1⟩ : ∃ B1, B1 = w1.heap.size := ⟨_, rfl⟩
  have HNIL := Lib.hid (World.ownsRow_nil w1 B1 25 1)
  have hbel0 : Below B1 w1 w1 := Below.refl _ _
  have HB1 := Lib.hid hB1
  clear hk hrow hL hB1
  go_wp2
  go_loopw [7, 8, 9] (fun o i _ wr => ∃ j : Nat, j ≤ k ∧ i = .int .i64 j ∧ (∃ A' c', o = .slice A' j c') ∧ wr.ownsRow B1 25 1 o j (u64s (Hsh.rowM L j)) ∧ Below B1 w1 wr) (fun _ i _ _ => k - (intOf i).toNat)
  case atStart => exact ⟨0, Nat.zero_le _, rfl, ⟨_, _, rfl⟩, HNIL.out, hbel0⟩
  case round =>
    obtain ⟨j, hj, rfl, ⟨A2, c2, rfl⟩, hrowr, hbelr⟩ := hrel
    have HRR := Lib.hid hrowr
    have hszr : B1 ≤ wr.heap.size := by have := HB1.out; have := hbelr.size; omega
    clear hrowr
    by_cases hlt : j < k
    · have hjl : j < L.length := by rw [← HK.out]; exact hlt
      obtain ⟨b, off, rfl, hb, hcl⟩ := (HRD.out).at_ (k := j) (by rw [u64s_len]; exact hjl)
      have hcr : wr.cell? ⟨b, off + j, none⟩ = some (.int .u64 (L[j] : Nat)) := by
        refine (hbelr.cell (p := ⟨b, off + j, none⟩) (by rw [HB1.out]; exact hb)).trans (hcl.trans ?_)
        simp [u64s]
      have hmm : Hsh.mm L j = if j % 2 = 0 then L[j] % 2305843009213693951 + 2305843009213693951 else L[j] % 2305843009213693951 := by
        unfold Hsh.mm
        rw [List.getElem?_eq_getElem hjl]
        rfl
      obtain ⟨x, hx⟩ : ∃ x : Nat, x = L[j] := ⟨_, rfl⟩
      rw [← hx] at hcr hmm
      obtain ⟨y, hy⟩ : ∃ y : Nat, y = x % 2305843009213693951 := ⟨_, rfl⟩
      have hxy : (x : Int) % 2305843009213693951 = (y : Int) := by omega
      have hyl : (y : Int) ≤ 2305843009213693950 := by omega
      rw [← hy] at hmm
      by_cases hpar : j % 2 = 0
      · have hp : (j : Int) % 2 = 0 := by omega
        rw [if_pos hpar] at hmm
        obtain ⟨z, hz⟩ : ∃ z : Nat, z = y + 2305843009213693951 := ⟨_, rfl⟩
        have hzi : (y : Int) + 2305843009213693951 = (z : Int) := by omega
        rw [← hz] at hmm
        have HMM := Lib.hid hmm
        clear hmm hx hy hz hcl hjl hpar
        go_wp2_with (at_builtin; refine wpList_append_own _ rfl _ _ 22 rfl B1 25 i0 (.int .u64 0) 1 8 Try.underlying22 HI.out HZ0.out HZ1.out HZ2.out rfl (by decide) _ _ _ rfl (HRR.out.alloc _) ⟨wr.heap.size, 0, none⟩ 1 1 [.int .u64 (z : Int)] rfl rfl (cell_one_new _ _ _) (by simp [Value.oneCell']) (by unfold maxLen; omega) (by omega) (by simp; omega) ?_; intro v' w4 hown' hgrow4 _; obtain ⟨g4, cap4, rfl⟩ := ownsRow_succ hown'; have HO4 := Lib.hid hown'; clear hown')
        go_roundw
        case rel =>
          refine ⟨j + 1, hlt, by go_num, ⟨_, _, rfl⟩, ?_, ?_⟩
          · rw [Hsh.rowM_succ, HMM.out, u64s_snoc]
            exact HO4.out
          · have hg4 : (wr.alloc (.cells #[.int .u64 (z : Int)] 25)).grownBy w4 (Value.slice A2 j c2).ownBlock := hgrow4
            exact hbelr.trans (((Below.refl B1 wr).alloc hszr _).grown hg4 (by simp; omega) (fun j e => (HRR.out.lt j e).1))
        case measure => simp [intOf]; omega
      · have hp : (j : Int) % 2 = 1 := by omega
        rw [if_neg hpar] at hmm
        have HMM := Lib.hid hmm
        clear hmm hx hy hcl hjl hpar
        go_wp2_with (at_builtin; refine wpList_append_own _ rfl _ _ 22 rfl B1 25 i0 (.int .u64 0) 1 8 Try.underlying22 HI.out HZ0.out HZ1.out HZ2.out rfl (by decide) _ _ _ rfl (HRR.out.alloc _) ⟨wr.heap.size, 0, none⟩ 1 1 [.int .u64 (y : Int)] rfl rfl (cell_one_new _ _ _) (by simp [Value.oneCell']) (by unfold maxLen; omega) (by omega) (by simp; omega) ?_; intro v' w4 hown' hgrow4 _; obtain ⟨g4, cap4, rfl⟩ := ownsRow_succ hown'; have HO4 := Lib.hid hown'; clear hown')
        go_roundw
        case rel =>
          refine ⟨j + 1, hlt, by go_num, ⟨_, _, rfl⟩, ?_, ?_⟩
          · rw [Hsh.rowM_succ, HMM.out, u64s_snoc]
            exact HO4.out
          · have hg4 : (wr.alloc (.cells #[.int .u64 (y : Int)] 25)).grownBy w4 (Value.slice A2 j c2).ownBlock := hgrow4
            exact hbelr.trans (((Below.refl B1 wr).alloc hszr _).grown hg4 (by simp; omega) (fun j e => (HRR.out.lt j e).1))
        case measure => simp [intOf]; omega
    · obtain rfl : j = k := by omega
      have hmod := Hsh.rowM_mod L j HK.out
      have hof := Hsh.of_mod t.data.toList _ _ hmod
      have hsec : Hsh.secret t.data.toList (Hsh.rowM L j) = Hsh.secret t.data.toList L := by unfold Hsh.secret; rw [hof]
      have hbw1 : Below w1.heap.size w1 wr := by rw [← HB1.out]; exact hbelr
      have hbwr : Below w.heap.size w wr := hb1.trans (hbw1.mono hb1.size)
      have HR1 := Lib.hid ((HRD.out.below hbw1).more hbw1.size)
      have HR2 := Lib.hid (Rd.of_own HRR.out)
      have HML := Lib.hid (Hsh.rowM_len L j).symm
      have HMT := Lib.hid (Hsh.rowM_lt L j)
      have hrg := Hsh.secret_range t.data.toList L
      have holt := Hsh.of_lt t.data.toList L
      have hblt := Hsh.of_lt t.data.toList (Hsh.words [] ++ [0])
      have k1 := fun W (h : Rd W.heap.size W A1 (u64s L)) => of_any t A1 j c1 L W (by omega) HK.out (by omega) HLT.out h
      have k2 := fun W (h : Rd W.heap.size W A1 (u64s L)) => secret_any t A1 j c1 L W (by omega) HK.out (by omega) HLT.out h
      have k3 := fun W (h : Rd W.heap.size W A2 (u64s (Hsh.rowM L j))) => of_any t A2 j c2 (Hsh.rowM L j) W (by omega) HML.out (by omega) HMT.out h
      have k4 := fun W (h : Rd W.heap.size W A2 (u64s (Hsh.rowM L j))) => secret_any t A2 j c2 (Hsh.rowM L j) W (by omega) HML.out (by omega) HMT.out h
      have k5 := fun W => bytes_any t [] none 0 0 W rfl (Nat.le_refl _) (by omega) (by omega) Rd.nil
      rw [hof] at k3
      rw [hsec] at k4
      obtain ⟨ya, hya⟩ : ∃ y : Nat, y = Hsh.of t.data.toList L := ⟨_, rfl⟩
      obtain ⟨yb, hyb⟩ : ∃ y : Nat, y = Hsh.secret t.data.toList L := ⟨_, rfl⟩
      obtain ⟨yc, hyc⟩ : ∃ y : Nat, y = Hsh.bytes t.data.toList [] := ⟨_, rfl⟩
      have hblt' : yc < 2305843009213693951 := by rw [hyc]; exact hblt
      rw [← hya] at k1 k3 holt
      rw [← hyb] at k2 k4 hrg
      rw [← hyc] at k5
      have d1 : decide ((ya : Int) < 2305843009213693951) = true := decide_eq_true (by omega)
      have d2 : decide ((1 : Int) ≤ (yb : Int)) = true := decide_eq_true (by omega)
      have d3 : decide ((yb : Int) ≤ 2305843009213693949) = true := decide_eq_true (by omega)
      have d4 : decide ((yc : Int) < 2305843009213693951) = true := decide_eq_true (by omega)
      have K1 := Lib.hid k1
      have K2 := Lib.hid k2
      have K3 := Lib.hid k3
      have K4 := Lib.hid k4
      have K5 := Lib.hid k5
      clear k1 k2 k3 k4 k5 hof hsec hmod hblt hrg holt hya hyb hyc hblt'
      go_wp2_with fail
      refine (K1.out _ HR1.out).mono ?_
      rintro e w5 ⟨rfl, hb5⟩
      have HR15 := Lib.hid ((HR1.out.below hb5).more hb5.size)
      have HR25 := Lib.hid ((HR2.out.below hb5).more hb5.size)
      go_wp2_with fail
      refine (K2.out _ HR15.out).mono ?_
      rintro e w6 ⟨rfl, hb6⟩
      have HR26 := Lib.hid ((HR25.out.below hb6).more hb6.size)
      go_wp2_with fail
      refine (K3.out _ HR26.out).mono ?_
      rintro e w7 ⟨rfl, hb7⟩
      have HR27 := Lib.hid ((HR26.out.below hb7).more hb7.size)
      go_wp2_with fail
      refine (K4.out _ HR27.out).mono ?_
      rintro e w8 ⟨rfl, hb8⟩
      go_wp2_with fail
      refine (K5.out _).mono ?_
      rintro e w9 ⟨rfl, hb9⟩
      go_wp2_with fail
      refine (lives_any w9).mono ?_
      rintro e w10 ⟨rfl, hb10⟩
      go_wp2
      go_ret
      exact ⟨rfl, kept_trans (kept_trans (kept_trans (kept_trans (kept_trans (kept_trans hbwr hb5) hb6) hb7) hb8) hb9) hb10⟩

/-! ### HashWords -/
set_option maxRecDepth 100000 in
set_option maxHeartbeats 2000000 in
theorem words_walk (s : ByteArray) (xs : List UInt8) (A0 : Option Addr) (n0 c0 : Nat) (w : World) (hn0 : n0 = xs.length) (hnc0 : n0 ≤ c0) (hA0 : Rd w.heap.size w A0 (u8s xs)) (hnil0 : A0 = none → c0 = 0) :
    Calls Try.prog 9 #[.string s, .slice A0 n0 c0] w fun e w' => e = .returned (.bool true) ∧ Below w.heap.size w w' := by
  obtain ⟨i0, hi, hz0, hz1, hz2⟩ := info_parts info_u64
  have hfew := few_any xs A0 n0 c0 40 w hn0 hnc0 (by omega) hA0 hnil0
  have HFEW := Lib.hid hfew
  have HN0 := Lib.hid hn0
  have HI := Lib.hid hi
  have HZ0 := Lib.hid hz0
  have HZ1 := Lib.hid hz1
  have HZ2 := Lib.hid hz2
  clear hfew hn0 hA0 hnil0 hi hz0 hz1 hz2
  go_enter Try.func9, Try.ntmps9
  go_wp2_with fail
  refine (short_any s 20 w (by omega)).mono ?_
  rintro e w' ⟨t, rfl, ht, rfl⟩
  go_wp2_with fail
  refine (HFEW.out).mono ?_
  rintro e w1 ⟨A1, c1, rfl, hrow1, hb1⟩
  have HK1 := Lib.hid (show min n0 40 = (xs.take 40).length by rw [List.length_take, ← HN0.out, Nat.min_comm])
  obtain ⟨m, hk1⟩ : ∃ k, k = min n0 40 := ⟨_, rfl⟩
  have hm40 : m ≤ 40 := by omega
  rw [← hk1] at HK1 hrow1 ⊢
  have hcc1 : m ≤ c1 := by
    rcases hrow1.2 with ⟨h, h0⟩ | ⟨g, cp, _, h, _, _, hle, _⟩
    · omega
    · injection h with _ _ h; omega
  have HR1 := Lib.hid (Rd.of_own hrow1)
  obtain ⟨X, hX⟩ : ∃ X, X = xs.take 40 := ⟨_, rfl⟩
  rw [← hX] at HK1 HR1
  clear hk1 hrow1 hX
  have hqs : Hsh.sevens m ≤ 6 := by unfold Hsh.sevens; omega
  have HLEN := Lib.hid (show Hsh.sevens m + 1 = (Hsh.words X ++ [m]).length by rw [List.length_append, Hsh.words_len, ← HK1.out]; rfl)
  have HSN := Lib.hid (u64s_snoc (Hsh.words X) m).symm
  have HLT := Lib.hid (show ∀ x ∈ Hsh.words X ++ [m], x < 72057594037927936 by
    intro x hx
    rcases List.mem_append.1 hx with h | h
    · exact Hsh.words_lt X x h
    · rw [List.mem_singleton.1 h]; omega)
  go_wp2_with fail
  refine (rwords_any X A1 m c1 w1 HK1.out (by omega) HR1.out).mono ?_
  rintro e w3 ⟨A3, c3, rfl, hrow, hbel⟩
  obtain ⟨q, hq⟩ : ∃ q, q = Hsh.sevens m := ⟨_, rfl⟩
  rw [← hq] at hrow hqs HLEN ⊢
  have HROW := Lib.hid hrow
  clear hrow hq
  go_wp2_with (at_builtin; refine wpList_append_own _ rfl _ _ 22 rfl w1.heap.size 25 i0 (.int .u64 0) 1 8 Try.underlying22 HI.out HZ0.out HZ1.out HZ2.out rfl (by decide) _ _ _ rfl (HROW.out.alloc _) ⟨w3.heap.size, 0, none⟩ 1 1 [.int .u64 (m : Int)] rfl rfl (cell_one_new _ _ _) (by simp [Value.oneCell']) (by unfold maxLen; omega) (by omega) (by have := hbel.size; simp; omega) ?_; intro v' w4 hown' hgrow _; obtain ⟨g2, cap2, rfl⟩ := ownsRow_succ hown'; have HOWN := Lib.hid hown'; clear hown')
  have hg2 : (w3.alloc (.cells #[.int .u64 (m : Int)] 25)).grownBy w4 (Value.slice A3 q c3).ownBlock := hgrow
  have hb4 : Below w1.heap.size w1 w4 := hbel.trans (((Below.refl _ w3).alloc (hbel.size) _).grown hg2 (by simp; have := hbel.size; omega) (fun j e => (HROW.out.lt j e).1))
  have HR4 := Lib.hid (Rd.of_own (HSN.out ▸ HOWN.out))
  have HR14 := Lib.hid ((HR1.out.below hb4).more hb4.size)
  obtain ⟨N, hN⟩ : ∃ N, N = Hsh.words X ++ [m] := ⟨_, rfl⟩
  rw [← hN] at HLEN HLT HR4
  have HNN := Lib.hid hN
  clear hN hg2 hgrow
  go_loopw [8] (fun i wr => ∃ j z : Nat, j ≤ q + 1 ∧ i = .int .i64 j ∧ wr = w4.drewN z) (fun i _ => q + 1 - (intOf i).toNat)
  case atStart => exact ⟨0, 0, Nat.zero_le _, rfl, rfl⟩
  case round =>
    obtain ⟨j, z, hj, rfl, hwr⟩ := hrel
    have HWR := Lib.hid hwr
    clear hwr
    by_cases hlt : j < q + 1
    · have hjl : j < N.length := by rw [← HLEN.out]; exact hlt
      obtain ⟨b, off, e, hb, hcl⟩ := (HR4.out).at_ (k := j) (by rw [u64s_len]; exact hjl)
      injection e with e
      injection e with e1 e2
      subst e1 e2
      have hcr : wr.cell? ⟨g2, j, none⟩ = some (.int .u64 (N[j] : Nat)) := by
        rw [Nat.zero_add] at hcl
        rw [HWR.out]
        refine hcl.trans ?_
        simp [u64s]
      have hxl := HLT.out _ (List.getElem_mem hjl)
      obtain ⟨x, hx⟩ : ∃ x : Nat, x = N[j] := ⟨_, rfl⟩
      rw [← hx] at hcr hxl
      have k1 := fun W : World => ok_any x W
      rw [decide_eq_true (show x < 2305843009213693951 by omega)] at k1
      have k2 := fun W : World => num_any x W (by omega)
      have hnx : Fld.num x = x := Nat.mod_eq_of_lt (show x < Fld.P from by rw [Fld.P_val]; omega)
      rw [hnx] at k2
      have q0 : (0 : Int) ≤ (j : Int) := by omega
      have q1 : (j : Int) < ((q + 1 : Nat) : Int) := by omega
      have K1 := Lib.hid k1
      have K2 := Lib.hid k2
      clear k1 k2 hnx hx hcl hjl
      go_wp2
      go_quiet ((first
        | (go_at_call 26; exact quiet_any (quiet_same K1.out))
        | (go_at_call 27; exact quiet_any (quiet_same K2.out))))
      go_wp2
      go_roundw
      case rel => exact ⟨j + 1, _, hlt, by go_num, by rw [HWR.out, World.drewN_drewN]⟩
      case measure => simp [intOf]; omega
    · have hbw : Below w4.heap.size w4 wr := by rw [HWR.out]; exact below_drewN (Below.refl _ _) z
      have HR15 := Lib.hid ((HR14.out.below hbw).more hbw.size)
      have HR45 := Lib.hid ((HR4.out.below hbw).more hbw.size)
      have k1 := bytes_any t X A1 m c1 wr HK1.out hcc1 (by omega) (by omega) HR15.out
      have k2 := fun W h => of_any t (some ⟨g2, 0, none⟩) (q + 1) cap2 N W (by omega) HLEN.out (by omega) (fun x hx => Nat.lt_trans (HLT.out x hx) (by omega)) h
      have heq : Hsh.of t.data.toList N = Hsh.bytes t.data.toList X := by rw [HNN.out, HK1.out]; rfl
      rw [heq] at k2
      obtain ⟨y, hy⟩ : ∃ y : Nat, y = Hsh.bytes t.data.toList X := ⟨_, rfl⟩
      rw [← hy] at k1 k2
      have K1 := Lib.hid k1
      have K2 := Lib.hid k2
      clear k1 k2 heq hy
      go_wp2_with fail
      refine (K1.out).mono ?_
      rintro e w5 ⟨rfl, hb5⟩
      have HR46 := Lib.hid ((HR45.out.below hb5).more hb5.size)
      go_wp2_with fail
      refine (K2.out _ HR46.out).mono ?_
      rintro e w6 ⟨rfl, hb6⟩
      go_wp2_with fail
      refine (lives_any w6).mono ?_
      rintro e w7 ⟨rfl, hb7⟩
      go_wp2
      go_ret
      exact ⟨rfl, kept_trans (kept_trans (kept_trans (kept_trans (kept_trans hb1 hb4) hbw) hb5) hb6) hb7⟩

/-! ### HashOwn -/
set_option maxRecDepth 100000 in
set_option maxHeartbeats 2000000 in
theorem own_walk (l : List Nat) (A : Option Addr) (n c : Nat) (xs : List UInt8) (A0 : Option Addr) (n0 c0 : Nat) (key : Nat) (w : World) (hn : n = l.length) (hnc : n ≤ c) (hl : ∀ x ∈ l, x < 18446744073709551616) (hA : Rd w.heap.size w A (u64s l)) (hnil : A = none → c = 0)
    (hn0 : n0 = xs.length) (hnc0 : n0 ≤ c0) (hA0 : Rd w.heap.size w A0 (u8s xs)) (hnil0 : A0 = none → c0 = 0) (hkey : key < 18446744073709551616) :
    Calls Try.prog 10 #[.slice A n c, .slice A0 n0 c0, .int .u64 key] w fun e w' => e = .returned (.bool true) ∧ Below w.heap.size w w' := by
  have hnums := nums_any l A n c 6 w hn hnc (by omega) hA hnil
  have hfew := fun (w1 : World) (hb : Below w.heap.size w w1) => few_any xs A0 n0 c0 30 w1 hn0 hnc0 (by omega) ((hA0.below hb).more hb.size) hnil0
  have HA := Lib.hid hA
  have HNUMS := Lib.hid hnums
  have HFEW := Lib.hid hfew
  have HL := Lib.hid hl
  have HN := Lib.hid hn
  have HN0 := Lib.hid hn0
  clear hfew hnums hl hn hA hnil hn0 hA0 hnil0
  go_enter Try.func10, Try.ntmps10
  go_wp2_with fail
  refine (HNUMS.out).mono ?_
  rintro e w1 ⟨A1, c1, rfl, hrow1, hb1⟩
  have HK1 := Lib.hid (show min n 6 = (l.take 6).length by rw [List.length_take, ← HN.out, Nat.min_comm])
  obtain ⟨k1, hk1⟩ : ∃ k, k = min n 6 := ⟨_, rfl⟩
  have hk6 : k1 ≤ 6 := by omega
  have hkn : k1 ≤ n := by omega
  rw [← hk1] at HK1 hrow1 ⊢
  have HLT := Lib.hid (show ∀ x ∈ l.take 6, x < 18446744073709551616 from fun x hx => HL.out x (List.mem_of_mem_take hx))
  have HR1 := Lib.hid (Rd.of_own hrow1)
  obtain ⟨L, hL⟩ : ∃ L, L = l.take 6 := ⟨_, rfl⟩
  rw [← hL] at HK1 HLT HR1
  have HLL := Lib.hid hL
  clear hk1 hrow1 hL
  go_wp2_with fail
  refine (HFEW.out w1 hb1).mono ?_
  rintro e w2 ⟨A2, c2, rfl, hrow2, hb2⟩
  have HK2 := Lib.hid (show min n0 30 = (xs.take 30).length by rw [List.length_take, ← HN0.out, Nat.min_comm])
  obtain ⟨k2, hk2⟩ : ∃ k, k = min n0 30 := ⟨_, rfl⟩
  have hk30 : k2 ≤ 30 := by omega
  rw [← hk2] at HK2 hrow2 ⊢
  have hcc2 : k2 ≤ c2 := by
    rcases hrow2.2 with ⟨h, h0⟩ | ⟨g, cp, _, h, _, _, hle, _⟩
    · omega
    · injection h with _ _ h; omega
  have HR2 := Lib.hid (Rd.of_own hrow2)
  have HR12 := Lib.hid ((HR1.out.below hb2).more hb2.size)
  obtain ⟨X, hX⟩ : ∃ X, X = xs.take 30 := ⟨_, rfl⟩
  rw [← hX] at HK2 HR2
  have HXX := Lib.hid hX
  have HKK := Lib.hid hk2
  clear hrow2 hX hk2
  have k1c := fun W h => of_any ⟨#[111, 119, 110]⟩ A1 k1 c1 L W (by decide) HK1.out (by omega) HLT.out h
  have k2c := fun W h => bytes_any ⟨#[111, 119, 110]⟩ X A2 k2 c2 W HK2.out hcc2 (by omega) (by decide) h
  obtain ⟨y1, hy1⟩ : ∃ y : Nat, y = Hsh.of (ByteArray.mk #[111, 119, 110]).data.toList L := ⟨_, rfl⟩
  obtain ⟨y2, hy2⟩ : ∃ y : Nat, y = Hsh.bytes (ByteArray.mk #[111, 119, 110]).data.toList X := ⟨_, rfl⟩
  rw [← hy1] at k1c
  rw [← hy2] at k2c
  have K1 := Lib.hid k1c
  have K2 := Lib.hid k2c
  clear k1c k2c hy1 hy2
  go_wp2_with fail
  refine (K1.out _ HR12.out).mono ?_
  rintro e w3 ⟨rfl, hb3⟩
  have HR13 := Lib.hid ((HR12.out.below hb3).more hb3.size)
  have HR23 := Lib.hid ((HR2.out.below hb3).more hb3.size)
  go_wp2_with fail
  refine (K2.out _ HR23.out).mono ?_
  rintro e w4 ⟨rfl, hb4⟩
  have HR14 := Lib.hid ((HR13.out.below hb4).more hb4.size)
  have HR24 := Lib.hid ((HR23.out.below hb4).more hb4.size)
  go_wp2_with fail
  refine (stream_any key 20 w4 hkey (by omega)).mono ?_
  rintro e w5 ⟨rfl, hblk5, hb5⟩
  obtain ⟨B, hB⟩ : ∃ B, B = w4.heap.size := ⟨_, rfl⟩
  rw [← hB] at hblk5 hb5 HR14 HR24 ⊢
  have hb0 : Below w.heap.size w w4 := kept_trans (kept_trans (kept_trans hb1 hb2) hb3) hb4
  have hblk : ∃ cs : Array Value, cs.size = 20 ∧ Blk w5 B 5 cs := ⟨_, by simp [u8s, Hsh.stream], hblk5⟩
  obtain ⟨cs, hcs, hblk⟩ := hblk
  have HBLK := Lib.hid hblk
  have HB := Lib.hid hB
  have HCS := Lib.hid hcs
  have hlt5 : B < w5.heap.size := hblk.lt
  clear hblk hblk5 hB hcs
  go_wp2
  go_loopw [12] (fun i wr => ∃ j : Nat, j ≤ 20 ∧ i = .int .i64 j ∧ (∃ ds : Array Value, ds.size = 20 ∧ Blk wr B 5 ds) ∧ w5.grownBy wr (some B)) (fun i _ => 20 - (intOf i).toNat)
  case atStart => exact ⟨0, by omega, rfl, ⟨cs, HCS.out, HBLK.out⟩, only_refl _ _⟩
  case round =>
    obtain ⟨j, hj, rfl, ⟨ds, hds, hbk⟩, hgr⟩ := hrel
    by_cases hlt : j < 20
    · have hcell := hbk.cell j
      rw [Array.getElem?_eq_getElem (by omega)] at hcell
      have hfr := hbk.frozen j
      generalize ds[j] = old at hcell
      have HBK := Lib.hid hbk
      have HDS := Lib.hid hds
      clear hbk hds
      go_wp2
      go_roundw
      case rel => exact ⟨j + 1, hlt, by go_num, ⟨_, by rw [Array.size_setIfInBounds]; exact HDS.out, HBK.out.set_ j _⟩, only_set hgr _ _⟩
      case measure => simp [intOf]; omega
    · have hbr : Below B w5 wr := below_only hgr (Nat.le_refl _) (by omega)
      have hbB : Below B w4 wr := hb5.trans hbr
      have hsz6 : B ≤ wr.heap.size := by have := hbB.size; have := HB.out; omega
      have HR16 := Lib.hid ((HR14.out.below hbB).more hsz6)
      have HR26 := Lib.hid ((HR24.out.below hbB).more hsz6)
      have hbw : Below w.heap.size w wr := hb0.trans (hbB.mono (by rw [HB.out]; exact hb0.size))
      have HA6 := Lib.hid ((HA.out.below hbw).more hbw.size)
      clear hds hbk
      obtain ⟨wo, hwo⟩ : ∃ wo : World, wo = wr := ⟨_, rfl⟩
      subst hwo
      clear hgr
      go_wp2
      go_loopw [13] (fun i wr => ∃ j z : Nat, j ≤ k1 ∧ i = .int .i64 j ∧ wr = wo.drewN z) (fun i _ => k1 - (intOf i).toNat)
      case atStart => exact ⟨0, 0, Nat.zero_le _, rfl, rfl⟩
      case round =>
        obtain ⟨j, z, hj, rfl, hwr⟩ := hrel
        have HWR := Lib.hid hwr
        clear hwr
        by_cases hlt : j < k1
        · have hjL : j < L.length := by rw [← HK1.out]; exact hlt
          have hjl : j < l.length := by rw [← HN.out]; omega
          have hLl : L[j] = l[j] := by
            have := HLL.out
            subst this
            exact List.getElem_take
          obtain ⟨b, off, rfl, hb, hcl⟩ := (HR16.out).at_ (k := j) (by rw [u64s_len]; exact hjL)
          obtain ⟨b2, off2, rfl, hb2', hcl2⟩ := (HA6.out).at_ (k := j) (by rw [u64s_len]; exact hjl)
          have hcr : wr.cell? ⟨b, off + j, none⟩ = some (.int .u64 (l[j] : Nat)) := by
            rw [HWR.out]
            refine hcl.trans ?_
            simp [u64s, hLl]
          have hcr2 : wr.cell? ⟨b2, off2 + j, none⟩ = some (.int .u64 (l[j] : Nat)) := by
            rw [HWR.out]
            refine hcl2.trans ?_
            simp [u64s]
          obtain ⟨x, hx⟩ : ∃ x : Nat, x = l[j] := ⟨_, rfl⟩
          rw [← hx] at hcr hcr2
          have q0 : (0 : Int) ≤ (j : Int) := by omega
          have q1 : (j : Int) < (k1 : Int) := by omega
          have q2 : (j : Int) < (n : Int) := by omega
          clear hcl hcl2 hLl hx hjL hjl
          go_wp2
          go_quiet (fail)
          go_wp2
          go_roundw
          case rel => exact ⟨j + 1, _, hlt, by go_num, by rw [HWR.out, World.drewN_drewN]⟩
          case measure => simp [intOf]; omega
        · have hbwo : Below wo.heap.size wo wr := by rw [HWR.out]; exact below_drewN (Below.refl _ _) z
          have HR17 := Lib.hid ((HR16.out.below hbwo).more hbwo.size)
          have HR27 := Lib.hid ((HR26.out.below hbwo).more hbwo.size)
          have hbwr : Below w.heap.size w wr := kept_trans hbw hbwo
          have hf := HFEW.out wr hbwr
          rw [← HKK.out] at hf
          have HF := Lib.hid hf
          clear hf
          go_wp2_with fail
          refine (HF.out).mono ?_
          rintro e w7 ⟨A7, c7, rfl, hrow7, hb7⟩
          rw [← HXX.out] at hrow7
          have HR7 := Lib.hid (Rd.of_own hrow7)
          have HR18 := Lib.hid ((HR17.out.below hb7).more hb7.size)
          have HR28 := Lib.hid ((HR27.out.below hb7).more hb7.size)
          have hs1 := same_any X X A2 A7 k2 c2 k2 c7 w7 HK2.out HK2.out (by omega) (by omega) HR28.out HR7.out
          rw [decide_eq_true rfl] at hs1
          have HS1 := Lib.hid hs1
          clear hs1 hrow7
          go_wp2_with fail
          refine (HS1.out).mono ?_
          rintro e w8 ⟨rfl, hb8⟩
          have HR19 := Lib.hid ((HR18.out.below hb8).more hb8.size)
          have HR29 := Lib.hid ((HR28.out.below hb8).more hb8.size)
          go_wp2_with fail
          refine (K1.out _ HR19.out).mono ?_
          rintro e w9 ⟨rfl, hb9⟩
          have HR210 := Lib.hid ((HR29.out.below hb9).more hb9.size)
          go_wp2_with fail
          refine (K2.out _ HR210.out).mono ?_
          rintro e w10 ⟨rfl, hb10⟩
          go_wp2_with fail
          refine (stream_any key 20 w10 hkey (by omega)).mono ?_
          rintro e w11 ⟨rfl, hblk11, hb11⟩
          have HR11 := Lib.hid (Rd.of_blk hblk11)
          clear hblk11
          go_wp2_with fail
          refine (rstream_any key 20 w11 (by omega)).mono ?_
          rintro e w12 ⟨A12, c12, rfl, hrow12, hb12⟩
          have HR12b := Lib.hid (Rd.of_own hrow12)
          have HR112 := Lib.hid ((HR11.out.below hb12).more hb12.size)
          have hs2 := same_any (Hsh.stream key 20) (Hsh.stream key 20) (some ⟨w10.heap.size, 0, none⟩) A12 20 20 20 c12 w12 (Hsh.stream_len key 20).symm (Hsh.stream_len key 20).symm (by omega) (by omega) HR112.out HR12b.out
          rw [decide_eq_true rfl] at hs2
          have HS2 := Lib.hid hs2
          clear hs2 hrow12
          go_wp2_with fail
          refine (HS2.out).mono ?_
          rintro e w13 ⟨rfl, hb13⟩
          go_wp2_with fail
          refine (lives_any w13).mono ?_
          rintro e w14 ⟨rfl, hb14⟩
          go_wp2
          go_ret
          exact ⟨rfl, kept_trans (kept_trans (kept_trans (kept_trans (kept_trans (kept_trans (kept_trans (kept_trans hbwr hb7) hb8) hb9) hb10) hb11) hb12) hb13) hb14⟩

end Go.Proofs.Ytjpihbigodgfiaa
