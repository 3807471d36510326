/-
  Package pack's ways of reading: a number, how many, a truth, a text, a name: what a cursor tells, and where it stands behind it. For up to a million bytes.
-/
import Derived.Test.YtkicjjcangkneaaGreatDoorSev
import Derived.Laws.BytesArg
namespace Go.Proofs.YtkicjjcangkneaaGreatDoor
open Go.RowKit
attribute [local go_sem ↓] Go.wp_at_zero Go.wp_at_succ

theorem Did.same {lo C : Nat} {l : List UInt8} {k : Nat} {e : Int} {w : World} (h : Cu lo 165 w C l k e) (he : e ≠ 0) (m n : Nat) : Did lo w (w.drewN m) C l k n e := ⟨k, h.drew m, fun h0 => absurd h0 he, only_drewN (only_refl _ _) m⟩
theorem Did.grown {lo : Nat} {w w' : World} {C : Nat} {l : List UInt8} {k n : Nat} {e : Int} (h : Did lo w w' C l k n e) : w.grownBy w' (some C) := by
  obtain ⟨_, _, _, h⟩ := h
  exact h

set_option maxRecDepth 100000 in
set_option maxHeartbeats 400000 in
theorem sevens_bad {lo C : Nat} {l : List UInt8} {k : Nat} {e : Int} {w : World} (he : e ≠ 0) (h : Cu lo 165 w C l k e) :
    Calls Tryz.prog 147 #[.pointer (some ⟨C, 0, none⟩)] w fun e w' => e = .returned (.int .u64 0) ∧ ∃ n, w' = w.drewN n := by
  have ht := take_bad 1 he h
  obtain ⟨A, cc, hC, _⟩ := h
  have c2 : w.cell? ⟨C, 2, none⟩ = some (.int .i64 e) := hC.cell 2
  have he1 : (e != 0) = true := by rw [bne_iff_ne]; exact he
  have HT := Lib.hid ht
  clear ht hC he
  go_enter Tryz.func147, Tryz.ntmps147
  go_wp2
  go_loopw [3, 4, 5, 6, 7] (fun _ _ _ _ _ wr => w = wr) (fun _ _ _ _ _ _ => 0)
  case atStart => exact rfl
  case round =>
    subst hrel
    go_wp2_with fail
    refine (HT.out).mono ?_
    rintro e w1 ⟨rfl, m, rfl⟩
    go_wp2
    go_ret
    exact ⟨rfl, _, rfl⟩

theorem sevens_any {lo C : Nat} {l : List UInt8} {k : Nat} {e : Int} {w : World} (h : Cu lo 165 w C l k e) :
    Calls Tryz.prog 147 #[.pointer (some ⟨C, 0, none⟩)] w fun x w' => x = .returned (.int .u64 ((Pk.stp 0 e (Pk.pNum (l.drop k))).v : Nat)) ∧ Did lo w w' C l k (Pk.stp 0 e (Pk.pNum (l.drop k))).n (Pk.stp 0 e (Pk.pNum (l.drop k))).e := by
  by_cases he : e = 0
  · subst he
    rw [Pk.stp_ok]
    exact sevens_ok h
  · rw [Pk.stp_bad _ _ he]
    refine (sevens_bad he h).mono ?_
    rintro x w' ⟨rfl, m, rfl⟩
    exact ⟨rfl, Did.same h he m 0⟩

/-! ### a number -/
theorem stp_int (e : Int) (l : List UInt8) : Pk.stp 0 e (Pk.pInt l) = ⟨Pk.zag (Pk.stp 0 e (Pk.pNum l)).v, (Pk.stp 0 e (Pk.pNum l)).n, (Pk.stp 0 e (Pk.pNum l)).e⟩ := by
  by_cases he : e = 0
  · subst he; rw [Pk.stp_ok, Pk.stp_ok]; rfl
  · rw [Pk.stp_bad _ _ he, Pk.stp_bad _ _ he, Pk.zag_zero]
theorem stp_num_lt (e : Int) (l : List UInt8) : (Pk.stp 0 e (Pk.pNum l)).v < 18446744073709551616 := by
  by_cases he : e = 0
  · subst he; rw [Pk.stp_ok]; exact Pk.sev_lt64 l
  · rw [Pk.stp_bad _ _ he]; show 0 < _; omega
set_option maxHeartbeats 400000 in
theorem number_is {lo C : Nat} {l : List UInt8} {k : Nat} {e : Int} {w : World} (h : Cu lo 165 w C l k e) :
    Calls Tryz.prog 191 #[.pointer (some ⟨C, 0, none⟩)] w fun x w' => x = .returned (.int .i64 (Pk.stp 0 e (Pk.pInt (l.drop k))).v) ∧ Did lo w w' C l k (Pk.stp 0 e (Pk.pInt (l.drop k))).n (Pk.stp 0 e (Pk.pInt (l.drop k))).e := by
  have hs := sevens_any h
  have hlt := stp_num_lt e (l.drop k)
  rw [stp_int]
  obtain ⟨q, hq⟩ : ∃ q, q = Pk.stp 0 e (Pk.pNum (l.drop k)) := ⟨_, rfl⟩
  rw [← hq] at hs hlt ⊢
  obtain ⟨u, hu⟩ : ∃ u, u = q.v := ⟨_, rfl⟩
  rw [← hu] at hs hlt ⊢
  have HS := Lib.hid hs
  have HX := Lib.hid (fun W => signed_any u W hlt)
  obtain ⟨z, hz⟩ : ∃ z, z = Pk.zag u := ⟨_, rfl⟩
  show Calls Tryz.prog 191 #[.pointer (some ⟨C, 0, none⟩)] w fun x w' => x = .returned (.int .i64 (Pk.zag u)) ∧ Did lo w w' C l k q.n q.e
  rw [← hz] at HX ⊢
  clear hs hq hu hlt h hz
  go_enter Tryz.func191, Tryz.ntmps191
  go_wp2_with fail
  refine (HS.out).mono ?_
  rintro x w1 ⟨rfl, hd⟩
  go_wp2_with fail
  refine (HX.out _).mono ?_
  rintro x w2 ⟨rfl, rfl⟩
  go_wp2
  go_ret
  exact ⟨rfl, hd⟩

/-! ### how many -/
theorem zag_bounds (e : Int) (l : List UInt8) : -9223372036854775808 ≤ (Pk.stp 0 e (Pk.pInt l)).v ∧ (Pk.stp 0 e (Pk.pInt l)).v ≤ 9223372036854775807 := by
  rw [stp_int]
  exact Pk.zag_lt _ (stp_num_lt e l)
theorem stp_int_zero (e : Int) (l : List UInt8) (h : (Pk.stp 0 e (Pk.pInt l)).e ≠ 0) : (Pk.stp 0 e (Pk.pInt l)).v = 0 ∧ (Pk.stp 0 e (Pk.pInt l)).n = 0 := by
  by_cases he : e = 0
  · subst he
    rw [Pk.stp_ok] at h ⊢
    obtain ⟨h1, h2⟩ := Pk.sev_none l 0 h
    exact ⟨by show Pk.zag (Pk.sev 0 l).v = 0; rw [h1, Pk.zag_zero], h2⟩
  · rw [Pk.stp_bad _ _ he]; exact ⟨rfl, rfl⟩
theorem stp_many (m : Int) (e : Int) (l : List UInt8) : Pk.stp 0 e (Pk.pMany m l) = if (Pk.stp 0 e (Pk.pInt l)).e = 0 ∧ ((Pk.stp 0 e (Pk.pInt l)).v < 0 ∨ m < (Pk.stp 0 e (Pk.pInt l)).v) then ⟨0, 0, 7⟩ else Pk.stp 0 e (Pk.pInt l) := by
  by_cases he : e = 0
  · subst he; rw [Pk.stp_ok, Pk.stp_ok]; rfl
  · rw [Pk.stp_bad _ _ he, Pk.stp_bad _ _ he, if_neg (fun h => he h.1)]
set_option maxHeartbeats 400000 in
theorem upto_is {lo C : Nat} {l : List UInt8} {k : Nat} {e : Int} {w : World} (m : Int) (hm : 0 ≤ m) (hm2 : m ≤ 9223372036854775807) (h : Cu lo 165 w C l k e) :
    Calls Tryz.prog 217 #[.pointer (some ⟨C, 0, none⟩), .int .i64 m] w fun x w' => (∃ y : Int, x = .returned (.int .i64 y) ∧ ((Pk.stp 0 e (Pk.pMany m (l.drop k))).e = 0 → y = (Pk.stp 0 e (Pk.pMany m (l.drop k))).v)) ∧
      Did lo w w' C l k (Pk.stp 0 e (Pk.pMany m (l.drop k))).n (Pk.stp 0 e (Pk.pMany m (l.drop k))).e := by
  have hs := number_is h
  have hb := zag_bounds e (l.drop k)
  have hz := stp_int_zero e (l.drop k)
  rw [stp_many m e _]
  obtain ⟨q, hq⟩ : ∃ q, q = Pk.stp 0 e (Pk.pInt (l.drop k)) := ⟨_, rfl⟩
  rw [← hq] at hs hb hz ⊢
  obtain ⟨u, hu⟩ : ∃ u, u = q.v := ⟨_, rfl⟩
  rw [← hu] at hs hb hz ⊢
  have HS := Lib.hid hs
  have HU := Lib.hid hu
  have HZ := Lib.hid hz
  clear hs hq h hu hz
  by_cases hc : u < 0 ∨ m < u
  · have he0 : q.e = 0 := by
      by_cases h : q.e = 0
      · exact h
      · have := (HZ.out h).1; omega
    rw [if_pos ⟨he0, hc⟩]
    have HE := Lib.hid he0
    clear he0
    go_enter Tryz.func217, Tryz.ntmps217
    by_cases hc0 : u < 0
    · clear hc
      go_wp2_with fail
      refine (HS.out).mono ?_
      rintro x w1 ⟨rfl, k', hcu, _, hg⟩
      rw [HE.out] at hcu
      have HF := Lib.hid (fail_none 7 hcu)
      have HG := Lib.hid hg
      clear HS hcu hg
      go_wp2_with fail
      refine (HF.out).mono ?_
      rintro x w2 ⟨⟨_, rfl⟩, hcu, hg⟩
      go_wp2
      go_ret
      exact ⟨⟨_, rfl, fun h => absurd h (by show ¬ (7 : Int) = 0; decide)⟩, k', hcu, fun h => absurd h (by show ¬ (7 : Int) = 0; decide), HG.out.trans hg⟩
    · have hc1 : m < u := by omega
      clear hc
      go_wp2_with fail
      refine (HS.out).mono ?_
      rintro x w1 ⟨rfl, k', hcu, _, hg⟩
      rw [HE.out] at hcu
      have HF := Lib.hid (fail_none 7 hcu)
      have HG := Lib.hid hg
      clear HS hcu hg
      go_wp2_with fail
      refine (HF.out).mono ?_
      rintro x w2 ⟨⟨_, rfl⟩, hcu, hg⟩
      go_wp2
      go_ret
      exact ⟨⟨_, rfl, fun h => absurd h (by show ¬ (7 : Int) = 0; decide)⟩, k', hcu, fun h => absurd h (by show ¬ (7 : Int) = 0; decide), HG.out.trans hg⟩
  · rw [if_neg (fun h => hc h.2)]
    have hc0 : ¬ u < 0 := by omega
    have hc1 : ¬ m < u := by omega
    clear hc
    go_enter Tryz.func217, Tryz.ntmps217
    go_wp2_with fail
    refine (HS.out).mono ?_
    rintro x w1 ⟨rfl, hd⟩
    have HD := Lib.hid hd
    clear HS hd
    go_wp2
    go_ret
    exact ⟨⟨_, rfl, fun _ => HU.out⟩, HD.out⟩

/-! ### a truth -/
theorem stp_bool (e : Int) (l : List UInt8) : Pk.stp false e (Pk.pBool l) = ⟨decide ((Pk.stp 0 e (Pk.pMany 1 l)).v = 1), (Pk.stp 0 e (Pk.pMany 1 l)).n, (Pk.stp 0 e (Pk.pMany 1 l)).e⟩ := by
  by_cases he : e = 0
  · subst he; rw [Pk.stp_ok, Pk.stp_ok]; rfl
  · rw [Pk.stp_bad _ _ he, Pk.stp_bad _ _ he]; rfl
/-! ### a text -/
theorem cu_conv_rd (A : Option Addr) (n c B : Nat) (W : World) (l : List UInt8) (hn : n = l.length) (h : Rd B W A (u8s l)) :
    (convert 28 9 (.slice A n c)).run Tryz.prog W = .ok (.string ⟨l.toArray⟩) W := by
  rcases A with _ | a
  · have hl : l = [] := by
      cases l with
      | nil => rfl
      | cons x l =>
        obtain ⟨b, off, e, _⟩ := h (by simp [u8s])
        cases e
    subst hl
    exact run_convert_bytes_nil (P := Tryz.prog) W 28 5 Tryz.underlying28 Tryz.underlying5 n c 9 Tryz.underlying9
  · rw [hn]
    refine run_convert_bytes_back (P := Tryz.prog) W 28 9 5 a c l Tryz.underlying28 Tryz.underlying5 Tryz.underlying9 fun j hj => ?_
    obtain ⟨b, off, e, _, hcl⟩ := h (by rw [u8s_len]; omega)
    injection e with e
    subst e
    rw [Addr.add_lit]
    exact hcl j _ (by unfold u8s; rw [List.getElem?_map, List.getElem?_eq_getElem hj]; rfl)
theorem stp_text (e : Int) (l : List UInt8) : Pk.stp [] e (Pk.pText l) =
    if (Pk.stp 0 e (Pk.pInt l)).e ≠ 0 then ⟨[], 0, (Pk.stp 0 e (Pk.pInt l)).e⟩ else if (Pk.stp 0 e (Pk.pInt l)).v < 0 then ⟨[], 0, 7⟩ else if ((l.length - (Pk.stp 0 e (Pk.pInt l)).n : Nat) : Int) < (Pk.stp 0 e (Pk.pInt l)).v then ⟨[], 0, 9⟩
    else ⟨(l.drop (Pk.stp 0 e (Pk.pInt l)).n).take (Pk.stp 0 e (Pk.pInt l)).v.toNat, (Pk.stp 0 e (Pk.pInt l)).n + (Pk.stp 0 e (Pk.pInt l)).v.toNat, 0⟩ := by
  by_cases he : e = 0
  · subst he; rw [Pk.stp_ok, Pk.stp_ok]; rfl
  · rw [Pk.stp_bad _ _ he, Pk.stp_bad _ _ he, if_pos he]
set_option maxHeartbeats 800000 in
theorem text_is {lo C : Nat} {l : List UInt8} {k : Nat} {e : Int} {w : World} (h : Cu lo 165 w C l k e) :
    Calls Tryz.prog 219 #[.pointer (some ⟨C, 0, none⟩)] w fun x w' => (∃ y, x = .returned y ∧ ((Pk.stp [] e (Pk.pText (l.drop k))).e = 0 → y = .string ⟨(Pk.stp [] e (Pk.pText (l.drop k))).v.toArray⟩)) ∧
      Did lo w w' C l k (Pk.stp [] e (Pk.pText (l.drop k))).n (Pk.stp [] e (Pk.pText (l.drop k))).e := by
  have hs := number_is h
  have hb := zag_bounds e (l.drop k)
  have hz := stp_int_zero e (l.drop k)
  have hpl := h.place
  rw [stp_text]
  obtain ⟨q, hq⟩ : ∃ q, q = Pk.stp 0 e (Pk.pInt (l.drop k)) := ⟨_, rfl⟩
  rw [← hq] at hs hb hz ⊢
  obtain ⟨u, hu⟩ : ∃ u, u = q.v := ⟨_, rfl⟩
  rw [← hu] at hs hb hz ⊢
  have HS := Lib.hid hs
  have HZ := Lib.hid hz
  have HP := Lib.hid hpl
  clear hs hq h hu hz hpl
  by_cases he : q.e = 0
  · rw [if_neg (fun h => h he)]
    have HE := Lib.hid he
    clear he HZ
    by_cases h0 : u < 0
    · rw [if_pos h0]
      go_enter Tryz.func219, Tryz.ntmps219
      go_wp2_with fail
      refine (HS.out).mono ?_
      rintro x w1 ⟨rfl, k', hcu, _, hg⟩
      rw [HE.out] at hcu
      have HF := Lib.hid (fail_none 7 hcu)
      have HG := Lib.hid hg
      clear HS hcu hg
      go_wp2_with fail
      refine (HF.out).mono ?_
      rintro x w2 ⟨⟨_, rfl⟩, hcu, hg⟩
      have HT := Lib.hid (take_bad u (by decide) hcu)
      have HCU := Lib.hid hcu
      have HG2 := Lib.hid hg
      clear HF hcu hg
      go_wp2_with fail
      refine (HT.out).mono ?_
      rintro x w3 ⟨rfl, m, rfl⟩
      have hcv := cu_conv_rd none 0 0 0 (w2.drewN m) [] rfl Rd.nil
      clear HT
      go_wp2
      go_ret
      exact ⟨⟨_, rfl, fun h => absurd h (by show ¬ (7 : Int) = 0; decide)⟩, k', HCU.out.drew m, fun h => absurd h (by show ¬ (7 : Int) = 0; decide), only_drewN (HG.out.trans HG2.out) m⟩
    · rw [if_neg h0]
      obtain ⟨n, rfl⟩ := Int.eq_ofNat_of_zero_le (by omega : 0 ≤ u)
      rw [List.length_drop]
      by_cases hl : ((l.length - k - q.n : Nat) : Int) < (n : Int)
      · rw [if_pos hl]
        have HL := Lib.hid hl
        clear hl
        go_enter Tryz.func219, Tryz.ntmps219
        go_wp2_with fail
        refine (HS.out).mono ?_
        rintro x w1 ⟨rfl, k', hcu, hk, hg⟩
        have hk := hk HE.out
        rw [HE.out] at hcu
        have HT := Lib.hid (take_short (n : Int) (by have := HL.out; omega) hcu)
        have HG := Lib.hid hg
        clear HS hcu hg hk
        go_wp2_with fail
        refine (HT.out).mono ?_
        rintro x w2 ⟨rfl, hcu, hg⟩
        have hcv := cu_conv_rd none 0 0 0 w2 [] rfl Rd.nil
        clear HT
        go_wp2
        go_ret
        exact ⟨⟨_, rfl, fun h => absurd h (by show ¬ (9 : Int) = 0; decide)⟩, k', hcu, fun h => absurd h (by show ¬ (9 : Int) = 0; decide), HG.out.trans hg⟩
      · rw [if_neg hl, List.drop_drop]
        have HL := Lib.hid hl
        clear hl
        go_enter Tryz.func219, Tryz.ntmps219
        go_wp2_with fail
        refine (HS.out).mono ?_
        rintro x w1 ⟨rfl, k', hcu, hk, hg⟩
        obtain rfl : k' = k + q.n := hk HE.out
        have hpl := hcu.place
        rw [HE.out] at hcu
        have HT := Lib.hid (cu_take_any n (by have := HL.out; omega) hcu)
        have HLN := Lib.hid (show n = ((l.drop (k + q.n)).take n).length by rw [List.length_take, List.length_drop]; have := HL.out; omega)
        have HG := Lib.hid hg
        clear HS hcu hg hk hpl HL HP
        go_wp2_with fail
        refine (HT.out).mono ?_
        rintro x w2 ⟨⟨A', c', rfl, hA'⟩, hcu, hg⟩
        have hcv := cu_conv_rd A' n c' lo w2 _ HLN.out hA'
        have HCU := Lib.hid hcu
        have HG2 := Lib.hid hg
        clear HT hcu hg hA'
        go_wp2
        go_ret
        exact ⟨⟨_, rfl, fun _ => rfl⟩, k + q.n + n, HCU.out, fun _ => by show k + q.n + n = k + (q.n + n); omega, HG.out.trans HG2.out⟩
  · rw [if_pos he]
    have hu0 := (HZ.out he).1
    subst hu0
    have HE := Lib.hid he
    clear he HZ
    go_enter Tryz.func219, Tryz.ntmps219
    go_wp2_with fail
    refine (HS.out).mono ?_
    rintro x w1 ⟨rfl, k', hcu, _, hg⟩
    have HT := Lib.hid (take_bad 0 HE.out hcu)
    have HCU := Lib.hid hcu
    have HG := Lib.hid hg
    clear HS hcu hg
    go_wp2_with fail
    refine (HT.out).mono ?_
    rintro x w2 ⟨rfl, m, rfl⟩
    have hcv := cu_conv_rd none 0 0 0 (w1.drewN m) [] rfl Rd.nil
    clear HT
    go_wp2
    go_ret
    exact ⟨⟨_, rfl, fun h => absurd h HE.out⟩, k', HCU.out.drew m, fun h => absurd h HE.out, only_drewN HG.out m⟩

end Go.Proofs.YtkicjjcangkneaaGreatDoor
