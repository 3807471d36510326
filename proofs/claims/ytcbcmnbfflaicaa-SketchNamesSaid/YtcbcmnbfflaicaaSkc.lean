/-
  Package sketch's change, with each of the two closures that solve hands it: each number of a row is changed, in its place; nothing else is. For rows of up to a million numbers.
-/
import Derived.Test.YtcbcmnbfflaicaaSkb
import Derived.BigQuiet
namespace Go.Proofs.Ytcbcmnbfflaicaa
open Go.RowKit

/-- The first so many of a row, changed. -/
def chg (f : Nat → Nat → Nat) (L : List Nat) : Nat → List Nat
  | 0 => L
  | k + 1 => (chg f L k).set k (f k (L[k]?.getD 0))
theorem chg_len (f : Nat → Nat → Nat) (L : List Nat) : ∀ k, (chg f L k).length = L.length
  | 0 => rfl
  | k + 1 => by show ((chg f L k).set k _).length = _; rw [List.length_set, chg_len f L k]
theorem chg_get (f : Nat → Nat → Nat) (L : List Nat) (i : Nat) (hi : i < L.length) : ∀ k, (chg f L k)[i]?.getD 0 = if i < k then f i (L[i]?.getD 0) else L[i]?.getD 0
  | 0 => by rw [if_neg (by omega)]; rfl
  | k + 1 => by
    show ((chg f L k).set k _)[i]?.getD 0 = _
    by_cases e : i = k
    · subst e
      rw [List.getElem?_set_self (by rw [chg_len]; exact hi), if_pos (by omega)]; rfl
    · rw [List.getElem?_set_ne (by omega), chg_get f L i hi k]
      by_cases c : i < k
      · rw [if_pos c, if_pos (by omega)]
      · rw [if_neg c, if_neg (by omega)]
theorem chg_big {f : Nat → Nat → Nat} (hf : ∀ i x, f i x < 2305843009213693951) {L : List Nat} : Pl.Sm (chg f L L.length) := fun y hy => by
  obtain ⟨i, hi, e⟩ := List.mem_iff_getElem.1 hy
  have hi2 : i < L.length := by rw [chg_len] at hi; exact hi
  have h := chg_get f L i hi2 L.length
  rw [if_pos hi2, List.getElem?_eq_getElem hi] at h
  have h2 : y = f i (L[i]?.getD 0) := by rw [← e]; exact h
  rw [h2]; exact hf _ _
theorem chg_co {f : Nat → Nat → Nat} {L : List Nat} {i : Nat} (hi : i < L.length) : Pl.co (chg f L L.length) i = Fld.to (f i (L[i]?.getD 0)) := by
  rw [Pl.co_at, chg_get f L i hi, if_pos hi]

theorem clo1_any (Bi v i x : Nat) (w : World) (h : w.cell? ⟨Bi, 0, none⟩ = some (.int .u64 (v : Int))) (hv : v < 18446744073709551616) (hx : x < 18446744073709551616) :
    Calls Try.prog 59 #[.int .i64 (i : Int), .int .u64 (x : Int), .pointer (some ⟨Bi, 0, none⟩)] w fun e w' => e = .returned (.int .u64 ((Fld.mul x v : Nat) : Int)) ∧ w = w' := by
  go_enter Try.func59, Try.ntmps59
  go_wp2_with fail
  refine (mul_any x v _ hx hv).mono ?_
  rintro e w' ⟨rfl, rfl⟩
  go_wp2
  go_ret
  exact ⟨rfl, rfl⟩

set_option maxHeartbeats 1000000 in
theorem clo2_any (Bt Bk t i x n c : Nat) (A : Option Addr) (K : List Nat) (g : Nat) (w : World) (h : w.cell? ⟨Bt, 0, none⟩ = some (.int .u64 (t : Int))) (h' : w.cell? ⟨Bk, 0, none⟩ = some (.slice A n c)) (hn : n = K.length) (hK : Rq g w A (u64s K)) (hi : i < n) (hb : n ≤ 1000000)
    (ht : t < 18446744073709551616) (hx : x < 18446744073709551616) (hKb : ∀ y ∈ K, y < 18446744073709551616) :
    Calls Try.prog 60 #[.int .i64 (i : Int), .int .u64 (x : Int), .pointer (some ⟨Bt, 0, none⟩), .pointer (some ⟨Bk, 0, none⟩)] w fun e w' => e = .returned (.int .u64 ((Fld.sub x (Fld.mul t (K[i]?.getD 0)) : Nat) : Int)) ∧ ∃ m, w' = w.drewN m := by
  obtain ⟨b, off, rfl, _, _, hc⟩ := hK (by rw [u64s_len]; omega)
  have hcc := hc i _ (u64s_at (by omega))
  have hyl := get_big hKb i
  obtain ⟨y, hy⟩ : ∃ y, y = K[i]?.getD 0 := ⟨_, rfl⟩
  rw [← hy] at hcc hyl ⊢
  have hml := Fld.mul_lt t y
  have q0 : (0 : Int) ≤ (i : Int) := by omega
  have q1 : (i : Int) < (n : Int) := by omega
  obtain ⟨m, hm⟩ : ∃ m, m = Fld.mul t y := ⟨_, rfl⟩
  have h1 : ∀ W : World, Calls Try.prog 24 #[.int .u64 (t : Int), .int .u64 (y : Int)] W fun e w' => e = .returned (.int .u64 (m : Int)) ∧ w' = W := fun W => by
    rw [hm]; exact (mul_any t y W ht hyl).mono fun _ _ ⟨a, b⟩ => ⟨a, b.symm⟩
  rw [← hm] at hml ⊢
  have h2 : ∀ W : World, Calls Try.prog 39 #[.int .u64 (x : Int), .int .u64 (m : Int)] W fun e w' => e = .returned (.int .u64 ((Fld.sub x m : Nat) : Int)) ∧ w' = W := fun W => (sub_any x m W hx (by omega)).mono fun _ _ ⟨a, b⟩ => ⟨a, b.symm⟩
  have H1 := Lib.hid h1
  have H2 := Lib.hid h2
  clear h1 h2 hc hK hn hKb hy hm
  go_enter Try.func60, Try.ntmps60
  go_wp2
  go_big_quiet (first | (go_at_call 24; refine Calls.quiet_of_same (H1.out _)) | (go_at_call 39; refine Calls.quiet_of_same (H2.out _)))
  go_wp2
  go_ret
  exact ⟨rfl, _, rfl⟩

set_option maxHeartbeats 1000000 in
theorem change1_any (g n c Bi v : Nat) (L : List Nat) (D : List Value) (w : World) (hg : Ax w g L D) (hn : n = L.length) (hb : n ≤ 1000000) (hL : ∀ x ∈ L, x < 18446744073709551616)
    (hB : w.cell? ⟨Bi, 0, none⟩ = some (.int .u64 (v : Int))) (hBl : Bi < w.heap.size) (hne : Bi ≠ g) (hv : v < 18446744073709551616) :
    Calls Try.prog 58 #[.slice (some ⟨g, 0, none⟩) n c, .func (.func 59) #[] #[.pointer (some ⟨Bi, 0, none⟩)]] w fun e w' => (∃ r, e = .returned r) ∧ Ax w' g (chg (fun _ x => Fld.mul x v) L L.length) D ∧ w.grownBy w' (some g) := by
  have HG := Lib.hid hg
  have HN := Lib.hid hn
  have HL := Lib.hid hL
  have HB := Lib.hid hB
  clear hg hn hL hB
  go_enter Try.func58, Try.ntmps58
  go_wp2
  go_loopw [8] (fun i wr => ∃ k : Nat, k ≤ n ∧ i = .int .i64 (k : Int) ∧ Ax wr g (chg (fun _ x => Fld.mul x v) L k) D ∧ w.grownBy wr (some g)) (fun i _ => n - (intOf i).toNat)
  case atStart => exact ⟨0, Nat.zero_le _, rfl, HG.out, only_refl _ _⟩
  case round =>
    obtain ⟨k, hk, rfl, har, hgr⟩ := hrel
    by_cases hlt : k < n
    · have hkl : k < L.length := by rw [← HN.out]; exact hlt
      have hcell := har.cell (i := k) (by rw [chg_len]; exact hkl)
      rw [chg_get _ _ _ hkl, if_neg (Nat.lt_irrefl k)] at hcell
      have hxl := get_big HL.out k
      have hst := har.set_ (i := k) (by rw [chg_len]; exact hkl) (Fld.mul (L[k]?.getD 0) v)
      have hst2 : Ax (wr.setCell ⟨g, k, none⟩ (.int .u64 ((Fld.mul (L[k]?.getD 0) v : Nat) : Int))) g (chg (fun _ x => Fld.mul x v) L (k + 1)) D := hst
      have hfz := har.frozen k
      have hbc : wr.cell? ⟨Bi, 0, none⟩ = some (.int .u64 (v : Int)) := (World.cell?_of_block (a := ⟨Bi, 0, none⟩) (hgr.block Bi hBl (fun e => hne (by injection e)))).trans HB.out
      obtain ⟨x, hx⟩ : ∃ x, x = L[k]?.getD 0 := ⟨_, rfl⟩
      rw [← hx] at hcell hxl hst2
      have hc1 := clo1_any Bi v k x wr hbc hv hxl
      obtain ⟨m, hm⟩ : ∃ m, m = Fld.mul x v := ⟨_, rfl⟩
      rw [← hm] at hc1 hst2
      have q0 : (0 : Int) ≤ (k : Int) := by omega
      have q1 : (k : Int) < (n : Int) := by omega
      have HST := Lib.hid hst2
      have HGR := Lib.hid (only_set hgr k (.int .u64 (m : Int)))
      have HC := Lib.hid hc1
      clear hst hst2 hx hm har hgr hc1 hbc
      go_wp2_with fail
      go_at_call 59
      refine HC.out.mono ?_
      rintro e w1 ⟨rfl, rfl⟩
      go_wp2
      go_roundw
      case rel => exact ⟨k + 1, hlt, by go_num, HST.out, HGR.out⟩
      case measure => simp [intOf]; omega
    · have e : k = L.length := by have := HN.out; omega
      rw [e] at har
      have HA := Lib.hid har
      clear har e
      go_wp2
      go_end0
      exact ⟨⟨_, rfl⟩, HA.out, hgr⟩

set_option maxHeartbeats 1000000 in
theorem change2_any (g n c Bt Bk t c2 : Nat) (A : Option Addr) (K L : List Nat) (D : List Value) (w : World) (hg : Ax w g L D) (hn : n = L.length) (hn2 : n = K.length) (hb : n ≤ 1000000) (hL : ∀ x ∈ L, x < 18446744073709551616) (hKb : ∀ x ∈ K, x < 18446744073709551616)
    (hB : w.cell? ⟨Bt, 0, none⟩ = some (.int .u64 (t : Int))) (hB2 : w.cell? ⟨Bk, 0, none⟩ = some (.slice A n c2)) (hBl : Bt < w.heap.size) (hne : Bt ≠ g) (hBl2 : Bk < w.heap.size) (hne2 : Bk ≠ g) (ht : t < 18446744073709551616) (hK : Rq g w A (u64s K)) :
    Calls Try.prog 58 #[.slice (some ⟨g, 0, none⟩) n c, .func (.func 60) #[] #[.pointer (some ⟨Bt, 0, none⟩), .pointer (some ⟨Bk, 0, none⟩)]] w fun e w' => (∃ r, e = .returned r) ∧ Ax w' g (chg (fun i x => Fld.sub x (Fld.mul t (K[i]?.getD 0))) L L.length) D ∧ w.grownBy w' (some g) := by
  have HG := Lib.hid hg
  have HN := Lib.hid hn
  have HN2 := Lib.hid hn2
  have HL := Lib.hid hL
  have HKB := Lib.hid hKb
  have HB := Lib.hid hB
  have HB2 := Lib.hid hB2
  have HK := Lib.hid hK
  clear hg hn hn2 hL hKb hB hB2 hK
  go_enter Try.func58, Try.ntmps58
  go_wp2
  go_loopw [8] (fun i wr => ∃ k : Nat, k ≤ n ∧ i = .int .i64 (k : Int) ∧ Ax wr g (chg (fun i x => Fld.sub x (Fld.mul t (K[i]?.getD 0))) L k) D ∧ w.grownBy wr (some g)) (fun i _ => n - (intOf i).toNat)
  case atStart => exact ⟨0, Nat.zero_le _, rfl, HG.out, only_refl _ _⟩
  case round =>
    obtain ⟨k, hk, rfl, har, hgr⟩ := hrel
    by_cases hlt : k < n
    · have hkl : k < L.length := by rw [← HN.out]; exact hlt
      have hcell := har.cell (i := k) (by rw [chg_len]; exact hkl)
      rw [chg_get _ _ _ hkl, if_neg (Nat.lt_irrefl k)] at hcell
      have hxl := get_big HL.out k
      have hbc : wr.cell? ⟨Bt, 0, none⟩ = some (.int .u64 (t : Int)) := (World.cell?_of_block (a := ⟨Bt, 0, none⟩) (hgr.block Bt hBl (fun e => hne (by injection e)))).trans HB.out
      have hbc2 : wr.cell? ⟨Bk, 0, none⟩ = some (.slice A n c2) := (World.cell?_of_block (a := ⟨Bk, 0, none⟩) (hgr.block Bk hBl2 (fun e => hne2 (by injection e)))).trans HB2.out
      obtain ⟨x, hx⟩ : ∃ x, x = L[k]?.getD 0 := ⟨_, rfl⟩
      rw [← hx] at hcell hxl
      have hc1 := clo2_any Bt Bk t k x n c2 A K g wr hbc hbc2 HN2.out (HK.out.grown hgr) hlt hb ht hxl HKB.out
      obtain ⟨m, hm⟩ : ∃ m, m = Fld.sub x (Fld.mul t (K[k]?.getD 0)) := ⟨_, rfl⟩
      have hst : ∀ q, Ax ((wr.drewN q).setCell ⟨g, k, none⟩ (.int .u64 (m : Int))) g (chg (fun i x => Fld.sub x (Fld.mul t (K[i]?.getD 0))) L (k + 1)) D := fun q => by
        have h1 : Ax (wr.drewN q) g (chg (fun i x => Fld.sub x (Fld.mul t (K[i]?.getD 0))) L k) D := har
        have h2 := h1.set_ (i := k) (by rw [chg_len]; exact hkl) m
        rw [hm, hx] at h2
        rw [hm, hx]
        exact h2
      have hgs : ∀ q, w.grownBy ((wr.drewN q).setCell ⟨g, k, none⟩ (.int .u64 (m : Int))) (some g) := fun q => only_set (only_drewN hgr q) k _
      have hfz : ∀ q, (wr.drewN q).frozen? ⟨g, k, none⟩ = false := fun q => har.frozen k
      have hcq : ∀ q, (wr.drewN q).cell? ⟨g, k, none⟩ = some (.int .u64 (x : Int)) := fun q => hcell
      rw [← hm] at hc1
      have q0 : (0 : Int) ≤ (k : Int) := by omega
      have q1 : (k : Int) < (n : Int) := by omega
      have HST := Lib.hid hst
      have HGR := Lib.hid hgs
      have HC := Lib.hid hc1
      have HF := Lib.hid hfz
      have HQ := Lib.hid hcq
      clear hst hgs hx hm har hgr hc1 hbc hbc2 hfz hcq
      go_wp2_with fail
      go_at_call 60
      refine HC.out.mono ?_
      rintro e w1 ⟨rfl, q, rfl⟩
      have hf := HF.out q
      have hc := HQ.out q
      have HST2 := Lib.hid (HST.out q)
      have HGR2 := Lib.hid (HGR.out q)
      obtain ⟨W, hW⟩ : ∃ W, W = wr.drewN q := ⟨_, rfl⟩
      rw [← hW] at hf hc HST2 HGR2 ⊢
      clear hW hcell
      go_wp2
      go_roundw
      case rel => exact ⟨k + 1, hlt, by go_num, HST2.out, HGR2.out⟩
      case measure => simp [intOf]; omega
    · have e : k = L.length := by have := HN.out; omega
      rw [e] at har
      have HA := Lib.hid har
      clear har e
      go_wp2
      go_end0
      exact ⟨⟨_, rfl⟩, HA.out, hgr⟩
end Go.Proofs.Ytcbcmnbfflaicaa
