/-
  Package sketch's point, value, powers, degrees, together, and the statements' Point, Value: each is the plain answer, and what was there is left as it was. For lists of up to a million numbers.
-/
import Derived.Test.YtcbcmnbfflaicaaSka
namespace Go.Proofs.Ytcbcmnbfflaicaa
open Go.RowKit
open Sk (pt pwr)

theorem Pt.at_ {w : World} {A : Option Addr} {n c : Nat} {l : List Nat} (h : Pt w A n c l) {k : Nat} (hk : k < n) :
    ∃ b off, A = some ⟨b, off, none⟩ ∧ b < w.heap.size ∧ w.cell? ⟨b, off + k, none⟩ = some (.int .u64 ((l[k]?.getD 0 : Nat) : Int)) := by
  have hl := h.1
  obtain ⟨b, off, e, hb, hc⟩ := h.2.1 (by rw [u64s_len]; omega)
  exact ⟨b, off, e, hb, hc k _ (u64s_at (by omega))⟩

theorem prodR_snoc (a : List Nat) (x : Nat) : Pl.prodR (a ++ [x]) = Pl.prodR a * Pl.lin (Fld.to x) := by
  induction a with
  | nil => show Pl.lin (Fld.to x) * Pl.C 1 = Pl.C 1 * Pl.lin (Fld.to x); rw [Pl.mul_comm]
  | cons y a ih => show Pl.lin (Fld.to y) * Pl.prodR (a ++ [x]) = Pl.lin (Fld.to y) * Pl.prodR a * Pl.lin (Fld.to x); rw [ih, Pl.mul_assoc]
/-- A set's value at a number. -/
noncomputable def sv (l : List Nat) (x : Nat) : Nat := vl (Pl.prodR l) x
theorem sv_lt (l : List Nat) (x : Nat) : sv l x < 2305843009213693951 := vl_lt _ _
theorem sv_nil (x : Nat) : sv [] x = 1 := by
  refine Fld.to_inj (sv_lt _ _) (by omega) ?_
  rw [sv, to_vl]
  show Pl.val (Pl.C 1) _ = _
  rw [Pl.val_C]; rfl
theorem sv_snoc (l : List Nat) (y x : Nat) : sv (l ++ [y]) x = Fld.mul (sv l x) (Fld.sub x y) := by
  refine Fld.to_inj (sv_lt _ _) (Fld.mul_lt _ _) ?_
  rw [sv, to_vl, prodR_snoc, Pl.val_mul (Pl.Po.prodR l) (Pl.Po.lin _), Fld.to_mulF, Fld.to_subF, sv, to_vl, Pl.val_lin]
theorem take_snoc {l : List Nat} {k : Nat} (h : k < l.length) : l.take (k + 1) = l.take k ++ [l[k]?.getD 0] := by
  rw [List.take_succ_eq_append_getElem h, List.getElem?_eq_getElem h]; rfl
theorem sv_step {l : List Nat} {k : Nat} (h : k < l.length) (x : Nat) : sv (l.take (k + 1)) x = Fld.mul (sv (l.take k) x) (Fld.sub x (l[k]?.getD 0)) := by
  rw [take_snoc h, sv_snoc]

theorem point_any (k : Nat) (hk : k ≤ 1000000) (w : World) : Calls Try.prog 28 #[.int .i64 (k : Int)] w fun e w' => e = .returned (.int .u64 ((pt k : Nat) : Int)) ∧ w = w' := by
  have h1 : IntKind.u64.wrap (k : Int) = (k : Int) := by rw [IntKind.wrap_u64]; omega
  have h2 : IntKind.u64.wrap (2305843009213693950 - (k : Int)) = ((pt k : Nat) : Int) := by rw [IntKind.wrap_u64]; unfold pt; omega
  obtain ⟨p, hp⟩ : ∃ p, p = pt k := ⟨_, rfl⟩
  rw [← hp] at h2 ⊢
  have HP := Lib.hid hp
  clear hp
  go_enter Try.func28, Try.ntmps28
  go_wp2
  go_ret
  exact ⟨by first | rfl | (rw [← h2]) | (congr 2; omega), rfl⟩
theorem rpoint_any (k : Nat) (hk : k ≤ 1000000) (w : World) : Calls Try.prog 31 #[.int .i64 (k : Int)] w fun e w' => e = .returned (.int .u64 ((pt k : Nat) : Int)) ∧ w = w' := by
  have h1 : IntKind.u64.wrap (k : Int) = (k : Int) := by rw [IntKind.wrap_u64]; omega
  have h2 : IntKind.u64.wrap (2305843009213693950 - (k : Int)) = ((pt k : Nat) : Int) := by rw [IntKind.wrap_u64]; unfold pt; omega
  obtain ⟨p, hp⟩ : ∃ p, p = pt k := ⟨_, rfl⟩
  rw [← hp] at h2 ⊢
  have HP := Lib.hid hp
  clear hp
  go_enter Try.func31, Try.ntmps31
  go_wp2
  go_ret
  exact ⟨by first | rfl | (rw [← h2]) | (congr 2; omega), rfl⟩

set_option maxHeartbeats 1000000 in
theorem value_any (l : List Nat) (A : Option Addr) (n c x : Nat) (w : World) (hp : Pt w A n c l) (hb : n ≤ 1000000) (hl : ∀ y ∈ l, y < 18446744073709551616) (hx : x < 18446744073709551616) :
    Calls Try.prog 27 #[.slice A n c, .int .u64 (x : Int)] w fun e w' => e = .returned (.int .u64 ((sv l x : Nat) : Int)) ∧ w = w' := by
  have HP := Lib.hid hp
  have HN := Lib.hid hp.1
  have HL := Lib.hid hl
  clear hp hl
  go_enter Try.func27, Try.ntmps27
  go_wp2
  go_loopw [5, 10] (fun v i wr => ∃ k : Nat, k ≤ n ∧ i = .int .i64 (k : Int) ∧ v = .int .u64 ((sv (l.take k) x : Nat) : Int) ∧ wr = w) (fun _ i _ => n - (intOf i).toNat)
  case atStart => exact ⟨0, Nat.zero_le _, rfl, by rw [List.take_zero, sv_nil]; rfl, rfl⟩
  case round =>
    obtain ⟨k, hk, rfl, rfl, rfl⟩ := hrel
    have hvl := sv_lt (l.take k) x
    by_cases hlt : k < n
    · have hs := sv_step (l := l) (k := k) (by rw [← HN.out]; exact hlt) x
      obtain ⟨b, off, rfl, hbb, hc⟩ := HP.out.at_ hlt
      have hyl := get_big HL.out k
      obtain ⟨y, hy⟩ : ∃ y, y = l[k]?.getD 0 := ⟨_, rfl⟩
      obtain ⟨v, hv⟩ : ∃ v, v = sv (l.take k) x := ⟨_, rfl⟩
      rw [← hy] at hs hc hyl
      rw [← hv] at hs hvl ⊢
      have q0 : (0 : Int) ≤ (k : Int) := by omega
      have q1 : (k : Int) < (n : Int) := by omega
      have hsl := Fld.sub_lt x y
      have HS := Lib.hid hs
      clear hs hy hv
      go_wp2_with fail
      refine (sub_any x y _ hx hyl).mono ?_
      rintro e w1 ⟨rfl, rfl⟩
      go_wp2_with fail
      refine (mul_any v (Fld.sub x y) _ (by omega) (by omega)).mono ?_
      rintro e w1 ⟨rfl, rfl⟩
      go_wp2
      go_roundw
      case rel => exact ⟨k + 1, hlt, by go_num, by rw [HS.out], by first | rfl | trivial⟩
      case measure => simp [intOf]; omega
    · have e : k = n := by omega
      subst e
      have htk : l.take k = l := List.take_of_length_le (by have := HN.out; omega)
      rw [htk]
      obtain ⟨v, hv⟩ : ∃ v, v = sv l x := ⟨_, rfl⟩
      rw [← hv]
      have HV := Lib.hid hv
      clear hv htk hvl
      go_wp2
      go_ret
      exact ⟨by rw [← HV.out]; rfl, rfl⟩

set_option maxHeartbeats 1000000 in
theorem rvalue_any (l : List Nat) (A : Option Addr) (n c x : Nat) (w : World) (hp : Pt w A n c l) (hb : n ≤ 1000000) (hl : ∀ y ∈ l, y < 18446744073709551616) :
    Calls Try.prog 30 #[.slice A n c, .int .u64 (x : Int)] w fun e w' => e = .returned (.int .u64 ((sv l x : Nat) : Int)) ∧ Below w.heap.size w w' := by
  have HP := Lib.hid hp
  have HN := Lib.hid hp.1
  have HL := Lib.hid hl
  clear hp hl
  go_enter Try.func30, Try.ntmps30
  go_wp2
  go_loopw [5, 6] (fun v i wr => ∃ k : Nat, k ≤ n ∧ i = .int .i64 (k : Int) ∧ v = .int .u64 ((sv (l.take k) x : Nat) : Int) ∧ Below w.heap.size w wr) (fun _ i _ => n - (intOf i).toNat)
  case atStart => exact ⟨0, Nat.zero_le _, rfl, by rw [List.take_zero, sv_nil]; rfl, Below.refl _ _⟩
  case round =>
    obtain ⟨k, hk, rfl, rfl, hbr⟩ := hrel
    have hvl := sv_lt (l.take k) x
    by_cases hlt : k < n
    · have hs := sv_step (l := l) (k := k) (by rw [← HN.out]; exact hlt) x
      obtain ⟨b, off, rfl, hbb, hc⟩ := (HP.out.below hbr).at_ hlt
      have hyl := get_big HL.out k
      obtain ⟨y, hy⟩ : ∃ y, y = l[k]?.getD 0 := ⟨_, rfl⟩
      obtain ⟨v, hv⟩ : ∃ v, v = sv (l.take k) x := ⟨_, rfl⟩
      rw [← hy] at hs hc hyl
      rw [← hv] at hs hvl ⊢
      have q0 : (0 : Int) ≤ (k : Int) := by omega
      have q1 : (k : Int) < (n : Int) := by omega
      have hsl := Fld.sub_lt x y
      have HS := Lib.hid hs
      clear hs hy hv
      go_wp2_with fail
      refine (rsub_any x y _).mono ?_
      rintro e w1 ⟨rfl, rfl⟩
      go_wp2_with fail
      refine (rmul_any v (Fld.sub x y) _).mono ?_
      rintro e w1 ⟨rfl, hb1⟩
      go_wp2
      go_roundw
      case rel => exact ⟨k + 1, hlt, by go_num, by rw [HS.out], hbr.trans (hb1.mono hbr.size)⟩
      case measure => simp [intOf]; omega
    · have e : k = n := by omega
      subst e
      have htk : l.take k = l := List.take_of_length_le (by have := HN.out; omega)
      rw [htk]
      obtain ⟨v, hv⟩ : ∃ v, v = sv l x := ⟨_, rfl⟩
      rw [← hv]
      have HV := Lib.hid hv
      clear hv htk hvl
      go_wp2
      go_ret
      exact ⟨by rw [← HV.out]; rfl, hbr⟩

set_option maxHeartbeats 1000000 in
theorem powers_any (x t n : Nat) (w : World) (hn : n ≤ 100000) (hx : x < 18446744073709551616) (ht : t < 18446744073709551616) :
    Calls Try.prog 64 #[.int .u64 (x : Int), .int .u64 (t : Int), .int .i64 (n : Int)] w fun e w' => e = .returned (.slice (some ⟨w.heap.size, 0, none⟩) n n) ∧ Ar w' w.heap.size (Pl.tab (pwr x t) n) ∧ Below w.heap.size w w' := by
  have hmk := mk64 n (by omega)
  have h0 := ar_new w (List.replicate n 0)
  have hb0 : Below w.heap.size w (w.alloc (.cells (u64s (List.replicate n 0)).toArray 22)) := (Below.refl _ w).alloc (Nat.le_refl _) _
  obtain ⟨g, hg⟩ : ∃ g, g = w.heap.size := ⟨_, rfl⟩
  have HG := Lib.hid hg
  have H0 := Lib.hid h0
  have HB0 := Lib.hid hb0
  clear h0 hb0 hg
  go_enter Try.func64, Try.ntmps64
  go_wp2
  go_loopw [1, 13] (fun v i wr => ∃ k : Nat, k ≤ n ∧ i = .int .i64 (k : Int) ∧ v = .int .u64 ((pwr x t k : Nat) : Int) ∧ Ar wr g (Pl.tab (pwr x t) k ++ List.replicate (n - k) 0) ∧ Below w.heap.size w wr) (fun _ i _ => n - (intOf i).toNat)
  case atStart => exact ⟨0, Nat.zero_le _, rfl, rfl, by rw [HG.out]; exact H0.out, HB0.out⟩
  case round =>
    obtain ⟨k, hk, rfl, rfl, har, hbr⟩ := hrel
    have hvl : pwr x t k < 18446744073709551616 := by cases k with | zero => exact ht | succ k => have := Fld.mul_lt (pwr x t k) x; show Fld.mul _ _ < _; omega
    by_cases hlt : k < n
    · obtain ⟨v, hv⟩ : ∃ v, v = pwr x t k := ⟨_, rfl⟩
      have hnx : pwr x t (k + 1) = Fld.mul v x := by rw [hv]; rfl
      have hst := har.set_ k v
      have hll : (Pl.tab (pwr x t) k ++ List.replicate (n - k) 0).set k v = Pl.tab (pwr x t) (k + 1) ++ List.replicate (n - (k + 1)) 0 := by
        have e : (Pl.tab (pwr x t) k).length = k := Pl.tab_len _ _
        rw [List.set_append_right _ _ (by omega), e, Nat.sub_self, show n - k = (n - (k + 1)) + 1 by omega, List.replicate_succ, List.set_cons_zero, Pl.tab_succ, ← hv, List.append_assoc]; rfl
      rw [hll] at hst
      have hb2 := hbr.setCell (p := ⟨g, k, none⟩) (by rw [HG.out]; exact Nat.le_refl _) (.int .u64 (v : Int))
      have hcell := har.cell (i := k) (by rw [List.length_append, Pl.tab_len, List.length_replicate]; omega)
      have hfz := har.frozen k
      rw [← hv] at hvl ⊢
      have q0 : (0 : Int) ≤ (k : Int) := by omega
      have q1 : (k : Int) < (n : Int) := by omega
      have HNX := Lib.hid hnx
      have HST := Lib.hid hst
      have HB2 := Lib.hid hb2
      clear hst hll hnx hv hb2 har hmk
      rw [← HG.out]
      go_wp2_with fail
      refine (mul_any v x _ hvl hx).mono ?_
      rintro e w1 ⟨rfl, rfl⟩
      go_wp2
      go_roundw
      case rel => exact ⟨k + 1, hlt, by go_num, by rw [HNX.out], HST.out, by have := HB2.out; first | exact this | (rw [← HG.out] at this; exact this)⟩
      case measure => simp [intOf]; omega
    · have e : k = n := by omega
      subst e
      have hll : Pl.tab (pwr x t) k ++ List.replicate (k - k) 0 = Pl.tab (pwr x t) k := by rw [Nat.sub_self, List.replicate_zero, List.append_nil]
      rw [hll] at har
      have HA := Lib.hid har
      clear har hll hmk
      go_wp2
      go_ret
      rw [HG.out] at HA
      exact ⟨rfl, HA.out, hbr⟩

/-- A row of numbers, times what stands at their places. -/
def tog (r l : List Nat) : Nat → Nat
  | 0 => 0
  | k + 1 => Fld.add (tog r l k) (Fld.mul (r[k]?.getD 0) (l[k]?.getD 0))
theorem tog_lt (r l : List Nat) : ∀ k, tog r l k < 2305843009213693951
  | 0 => by show 0 < _; omega
  | _ + 1 => Fld.add_lt _ _
theorem to_tog (r l : List Nat) : ∀ k, Fld.to (tog r l k) = Sk.sm (fun i => Pl.co r i * Pl.co l i) k
  | 0 => rfl
  | k + 1 => by show Fld.to (Fld.add _ _) = _; rw [Fld.to_addF, Fld.to_mulF, to_tog r l k]; rfl

set_option maxHeartbeats 1000000 in
theorem together_any (r l : List Nat) (A A' : Option Addr) (n c n' c' : Nat) (w : World) (hp : Pt w A n c r) (hp' : Pt w A' n' c' l) (hnn : n ≤ n') (hb : n ≤ 1000000) (hr : ∀ y ∈ r, y < 18446744073709551616) (hl : ∀ y ∈ l, y < 18446744073709551616) :
    Calls Try.prog 63 #[.slice A n c, .slice A' n' c'] w fun e w' => e = .returned (.int .u64 ((tog r l n : Nat) : Int)) ∧ w = w' := by
  have HP := Lib.hid hp
  have HP' := Lib.hid hp'
  have HR := Lib.hid hr
  have HL := Lib.hid hl
  clear hp hp' hr hl
  go_enter Try.func63, Try.ntmps63
  go_wp2
  go_loopw [5, 10] (fun v i wr => ∃ k : Nat, k ≤ n ∧ i = .int .i64 (k : Int) ∧ v = .int .u64 ((tog r l k : Nat) : Int) ∧ wr = w) (fun _ i _ => n - (intOf i).toNat)
  case atStart => exact ⟨0, Nat.zero_le _, rfl, rfl, rfl⟩
  case round =>
    obtain ⟨k, hk, rfl, rfl, rfl⟩ := hrel
    have hvl := tog_lt r l k
    by_cases hlt : k < n
    · have hs : tog r l (k + 1) = Fld.add (tog r l k) (Fld.mul (r[k]?.getD 0) (l[k]?.getD 0)) := rfl
      obtain ⟨b, off, rfl, hbb, hc⟩ := HP.out.at_ hlt
      obtain ⟨b2, off2, rfl, hbb2, hc2⟩ := HP'.out.at_ (k := k) (by omega)
      have hyl := get_big HR.out k
      have hzl := get_big HL.out k
      obtain ⟨y, hy⟩ : ∃ y, y = r[k]?.getD 0 := ⟨_, rfl⟩
      obtain ⟨z, hz⟩ : ∃ z, z = l[k]?.getD 0 := ⟨_, rfl⟩
      obtain ⟨v, hv⟩ : ∃ v, v = tog r l k := ⟨_, rfl⟩
      rw [← hy] at hs hc hyl
      rw [← hz] at hs hc2 hzl
      rw [← hv] at hs hvl ⊢
      have q0 : (0 : Int) ≤ (k : Int) := by omega
      have q1 : (k : Int) < (n : Int) := by omega
      have q2 : (k : Int) < (n' : Int) := by omega
      have hsl := Fld.mul_lt y z
      have HS := Lib.hid hs
      clear hs hy hv hz
      go_wp2_with fail
      refine (mul_any y z _ hyl hzl).mono ?_
      rintro e w1 ⟨rfl, rfl⟩
      go_wp2_with fail
      refine (add_any v (Fld.mul y z) _ (by omega) (by omega)).mono ?_
      rintro e w1 ⟨rfl, rfl⟩
      go_wp2
      go_roundw
      case rel => exact ⟨k + 1, hlt, by go_num, by rw [HS.out], by first | rfl | trivial⟩
      case measure => simp [intOf]; omega
    · have e : k = n := by omega
      subst e
      obtain ⟨v, hv⟩ : ∃ v, v = tog r l k := ⟨_, rfl⟩
      rw [← hv]
      have HV := Lib.hid hv
      clear hv hvl
      go_wp2
      go_ret
      exact ⟨by rw [← HV.out]; rfl, rfl⟩
end Go.Proofs.Ytcbcmnbfflaicaa
