/-
  Package pack's In: Open, its reads, Left, Err and End. For up to a million bytes.
-/
import Derived.Test.YtkicjjcangkneaaGreatDoorNam
import Derived.Lib.SliceRun
namespace Go.Proofs.YtkicjjcangkneaaGreatDoor
open Go.RowKit
set_option maxRecDepth 100000
attribute [local go_sem ↓] Go.wp_at_zero Go.wp_at_succ

theorem if_stp {α : Type} {z : α} {e : Int} {p : Pk.R α} (val : α → Value) (zero : Value) (hz : val z = zero) (hb : p.e ≠ 0 → p.v = z ∧ p.n = 0) (k : Nat) :
    (if (Pk.stp z e p).e = 0 then val (Pk.stp z e p).v else zero) = val (Pk.stp z e p).v ∧ (if (Pk.stp z e p).e = 0 then k + (Pk.stp z e p).n else k) = k + (Pk.stp z e p).n := by
  by_cases he : e = 0
  · subst he
    rw [Pk.stp_ok]
    by_cases h : p.e = 0
    · rw [if_pos h, if_pos h]; exact ⟨rfl, rfl⟩
    · rw [if_neg h, if_neg h, (hb h).1, (hb h).2]; exact ⟨hz.symm, rfl⟩
  · rw [Pk.stp_bad _ _ he, if_neg he, if_neg he]; exact ⟨hz.symm, rfl⟩
theorem pnum_bad (l : List UInt8) (h : (Pk.pNum l).e ≠ 0) : (Pk.pNum l).v = 0 ∧ (Pk.pNum l).n = 0 := Pk.sev_none l 0 h
theorem pint_bad (l : List UInt8) (h : (Pk.pInt l).e ≠ 0) : (Pk.pInt l).v = 0 ∧ (Pk.pInt l).n = 0 := by
  obtain ⟨h1, h2⟩ := pnum_bad l h
  exact ⟨by show Pk.zag (Pk.pNum l).v = 0; rw [h1, Pk.zag_zero], h2⟩
theorem pmany_bad (m : Int) (l : List UInt8) (h : (Pk.pMany m l).e ≠ 0) : (Pk.pMany m l).v = 0 ∧ (Pk.pMany m l).n = 0 := by
  unfold Pk.pMany at h ⊢
  split at h
  · rename_i hc; rw [if_pos hc]; exact ⟨rfl, rfl⟩
  · rename_i hc; rw [if_neg hc]; exact pint_bad l h
theorem pbool_bad (l : List UInt8) (h : (Pk.pBool l).e ≠ 0) : (Pk.pBool l).v = false ∧ (Pk.pBool l).n = 0 := by
  obtain ⟨h1, h2⟩ := pmany_bad 1 l h
  exact ⟨by show decide ((Pk.pMany 1 l).v = 1) = false; rw [h1]; rfl, h2⟩
theorem ptext_bad (l : List UInt8) (h : (Pk.pText l).e ≠ 0) : (Pk.pText l).v = [] ∧ (Pk.pText l).n = 0 := by
  unfold Pk.pText at h ⊢
  split
  · exact ⟨rfl, rfl⟩
  · rename_i h1
    rw [if_neg h1] at h
    split
    · exact ⟨rfl, rfl⟩
    · rename_i h2
      rw [if_neg h2] at h
      split
      · exact ⟨rfl, rfl⟩
      · rename_i h3
        rw [if_neg h3] at h
        exact absurd rfl h
def i64v (n : Int) : Value := .int .i64 n
def u64v (n : Nat) : Value := .int .u64 (n : Int)
def strv (l : List UInt8) : Value := .string ⟨l.toArray⟩

set_option maxHeartbeats 400000 in
theorem in_num {lo C : Nat} {l : List UInt8} {k : Nat} {e : Int} {w : World} (h : Cu lo 165 w C l k e) :
    Calls Tryz.prog 62 #[.pointer (some ⟨C, 0, none⟩)] w fun x w' => x = .returned (u64v (Pk.stp 0 e (Pk.pNum (l.drop k))).v) ∧ Cu lo 165 w' C l (k + (Pk.stp 0 e (Pk.pNum (l.drop k))).n) (Pk.stp 0 e (Pk.pNum (l.drop k))).e ∧ w.grownBy w' (some C) := by
  have hr := read_num (Pk.stp 0 e (Pk.pNum (l.drop k))).n (Pk.stp 0 e (Pk.pNum (l.drop k))).e (u64v (Pk.stp 0 e (Pk.pNum (l.drop k))).v) h ((sevens_any h).mono (by rintro x w' ⟨rfl, hd⟩; exact ⟨⟨_, rfl, fun _ => rfl⟩, hd⟩))
  obtain ⟨h1, h2⟩ := if_stp (e := e) u64v (.int .u64 0) rfl (pnum_bad (l.drop k)) k
  rw [h1, h2] at hr
  obtain ⟨q, hq⟩ : ∃ q, q = Pk.stp 0 e (Pk.pNum (l.drop k)) := ⟨_, rfl⟩
  rw [← hq] at hr ⊢
  obtain ⟨v, hv⟩ : ∃ v, v = u64v q.v := ⟨_, rfl⟩
  rw [← hv] at hr ⊢
  have HR := Lib.hid hr
  clear hr hq h h1 h2 hv
  go_enter Tryz.func62, Tryz.ntmps62
  go_wp2_with fail
  refine (HR.out).mono ?_
  rintro x w1 ⟨rfl, hd⟩
  go_wp2
  go_ret
  exact ⟨rfl, hd⟩

set_option maxHeartbeats 400000 in
theorem in_int {lo C : Nat} {l : List UInt8} {k : Nat} {e : Int} {w : World} (h : Cu lo 165 w C l k e) :
    Calls Tryz.prog 135 #[.pointer (some ⟨C, 0, none⟩)] w fun x w' => x = .returned (i64v (Pk.stp 0 e (Pk.pInt (l.drop k))).v) ∧ Cu lo 165 w' C l (k + (Pk.stp 0 e (Pk.pInt (l.drop k))).n) (Pk.stp 0 e (Pk.pInt (l.drop k))).e ∧ w.grownBy w' (some C) := by
  have hr := read_int (Pk.stp 0 e (Pk.pInt (l.drop k))).n (Pk.stp 0 e (Pk.pInt (l.drop k))).e (i64v (Pk.stp 0 e (Pk.pInt (l.drop k))).v) h ((number_is h).mono (by rintro x w' ⟨rfl, hd⟩; exact ⟨⟨_, rfl, fun _ => rfl⟩, hd⟩))
  obtain ⟨h1, h2⟩ := if_stp (e := e) i64v (.int .i64 0) rfl (pint_bad (l.drop k)) k
  rw [h1, h2] at hr
  obtain ⟨q, hq⟩ : ∃ q, q = Pk.stp 0 e (Pk.pInt (l.drop k)) := ⟨_, rfl⟩
  rw [← hq] at hr ⊢
  obtain ⟨v, hv⟩ : ∃ v, v = i64v q.v := ⟨_, rfl⟩
  rw [← hv] at hr ⊢
  have HR := Lib.hid hr
  clear hr hq h h1 h2 hv
  go_enter Tryz.func135, Tryz.ntmps135
  go_wp2_with fail
  refine (HR.out).mono ?_
  rintro x w1 ⟨rfl, hd⟩
  go_wp2
  go_ret
  exact ⟨rfl, hd⟩

set_option maxHeartbeats 400000 in
theorem in_text {lo C : Nat} {l : List UInt8} {k : Nat} {e : Int} {w : World} (h : Cu lo 165 w C l k e) :
    Calls Tryz.prog 198 #[.pointer (some ⟨C, 0, none⟩)] w fun x w' => x = .returned (strv (Pk.stp [] e (Pk.pText (l.drop k))).v) ∧ Cu lo 165 w' C l (k + (Pk.stp [] e (Pk.pText (l.drop k))).n) (Pk.stp [] e (Pk.pText (l.drop k))).e ∧ w.grownBy w' (some C) := by
  have hr := read_text (Pk.stp [] e (Pk.pText (l.drop k))).n (Pk.stp [] e (Pk.pText (l.drop k))).e (strv (Pk.stp [] e (Pk.pText (l.drop k))).v) h ((text_is h).mono (by rintro x w' ⟨⟨y, rfl, hy⟩, hd⟩; exact ⟨⟨_, rfl, hy⟩, hd⟩))
  obtain ⟨h1, h2⟩ := if_stp (e := e) strv (.string ⟨#[]⟩) rfl (ptext_bad (l.drop k)) k
  rw [h1, h2] at hr
  obtain ⟨q, hq⟩ : ∃ q, q = Pk.stp [] e (Pk.pText (l.drop k)) := ⟨_, rfl⟩
  rw [← hq] at hr ⊢
  obtain ⟨v, hv⟩ : ∃ v, v = strv q.v := ⟨_, rfl⟩
  rw [← hv] at hr ⊢
  have HR := Lib.hid hr
  clear hr hq h h1 h2 hv
  go_enter Tryz.func198, Tryz.ntmps198
  go_wp2_with fail
  refine (HR.out).mono ?_
  rintro x w1 ⟨rfl, hd⟩
  go_wp2
  go_ret
  exact ⟨rfl, hd⟩

/-! ### how many -/
set_option maxHeartbeats 400000 in
theorem clo_many {lo C M : Nat} {l : List UInt8} {k : Nat} {e : Int} {w : World} (m : Int) (hm : 0 ≤ m) (hm2 : m ≤ 9223372036854775807) (hM : w.cell? ⟨M, 0, none⟩ = some (.int .i64 m)) (h : Cu lo 165 w C l k e) :
    Calls Tryz.prog 216 #[.pointer (some ⟨C, 0, none⟩), .pointer (some ⟨M, 0, none⟩)] w fun x w' => (∃ y : Int, x = .returned (.int .i64 y) ∧ ((Pk.stp 0 e (Pk.pMany m (l.drop k))).e = 0 → y = (Pk.stp 0 e (Pk.pMany m (l.drop k))).v)) ∧
      Did lo w w' C l k (Pk.stp 0 e (Pk.pMany m (l.drop k))).n (Pk.stp 0 e (Pk.pMany m (l.drop k))).e := by
  have hu := upto_is m hm hm2 h
  obtain ⟨q, hq⟩ : ∃ q, q = Pk.stp 0 e (Pk.pMany m (l.drop k)) := ⟨_, rfl⟩
  rw [← hq] at hu ⊢
  have HU := Lib.hid hu
  clear hu hq h
  go_enter Tryz.func216, Tryz.ntmps216
  go_wp2_with fail
  refine (HU.out).mono ?_
  rintro x w1 ⟨⟨y, rfl, hy⟩, hd⟩
  have HY := Lib.hid hy
  clear hy hM
  go_wp2
  go_ret
  exact ⟨⟨y, rfl, HY.out⟩, hd⟩
set_option maxHeartbeats 400000 in
theorem in_many {lo C : Nat} {l : List UInt8} {k : Nat} {e : Int} {w : World} (m : Int) (hm : 0 ≤ m) (hm2 : m ≤ 9223372036854775807) (h : Cu lo 165 w C l k e) :
    Calls Tryz.prog 192 #[.pointer (some ⟨C, 0, none⟩), .int .i64 m] w fun x w' => x = .returned (i64v (Pk.stp 0 e (Pk.pMany m (l.drop k))).v) ∧ Cu lo 165 w' C l (k + (Pk.stp 0 e (Pk.pMany m (l.drop k))).n) (Pk.stp 0 e (Pk.pMany m (l.drop k))).e ∧ w.grownBy w' (some C) := by
  have ha := h.alloc (.cells #[.int .i64 m] 3)
  have hM := (blk_new w 3 #[.int .i64 m]).cell 0
  have hr := read_many w.heap.size (Pk.stp 0 e (Pk.pMany m (l.drop k))).n (Pk.stp 0 e (Pk.pMany m (l.drop k))).e (i64v (Pk.stp 0 e (Pk.pMany m (l.drop k))).v) ha ((clo_many m hm hm2 hM ha).mono (by rintro x w' ⟨⟨y, rfl, hy⟩, hd⟩; exact ⟨⟨_, rfl, fun h0 => by rw [hy h0]; rfl⟩, hd⟩))
  obtain ⟨h1, h2⟩ := if_stp (e := e) i64v (.int .i64 0) rfl (pmany_bad m (l.drop k)) k
  rw [h1, h2] at hr
  obtain ⟨q, hq⟩ : ∃ q, q = Pk.stp 0 e (Pk.pMany m (l.drop k)) := ⟨_, rfl⟩
  rw [← hq] at hr ⊢
  obtain ⟨v, hv⟩ : ∃ v, v = i64v q.v := ⟨_, rfl⟩
  rw [← hv] at hr ⊢
  have HR := Lib.hid hr
  have HG := Lib.hid (World.grownBy_alloc w (.cells #[.int .i64 m] 3) (some C))
  clear hr hq h h1 h2 hv ha hM
  go_enter Tryz.func192, Tryz.ntmps192
  go_wp2_with fail
  refine (HR.out).mono ?_
  rintro x w1 ⟨rfl, hcu, hg⟩
  have HD := Lib.hid (And.intro hcu (HG.out.trans hg))
  clear hcu hg
  go_wp2
  go_ret
  exact ⟨rfl, HD.out⟩

/-! ### left, wrong, end -/
theorem in_err {lo C : Nat} {l : List UInt8} {k : Nat} {e : Int} {w : World} (h : Cu lo 165 w C l k e) :
    Calls Tryz.prog 193 #[.pointer (some ⟨C, 0, none⟩)] w fun x w' => x = .returned (.int .i64 e) ∧ w = w' := by
  have c2 := h.cells.1
  clear h
  go_enter Tryz.func193, Tryz.ntmps193
  go_wp2
  go_ret
  exact ⟨rfl, rfl⟩
def endd (n k : Nat) (e : Int) : Int := if e = 0 ∧ k < n then 2 else e
set_option maxHeartbeats 400000 in
theorem in_end {lo C : Nat} {l : List UInt8} {k : Nat} {e : Int} {w : World} (h : Cu lo 165 w C l k e) :
    Calls Tryz.prog 63 #[.pointer (some ⟨C, 0, none⟩)] w fun x w' => x = .returned (.int .i64 (endd l.length k e)) ∧ ∃ n, w' = w.drewN n := by
  have HL := Lib.hid (left_any h)
  have c2 := h.cells.1
  have hpl := h.place
  obtain ⟨z, hz⟩ : ∃ z, z = endd l.length k e := ⟨_, rfl⟩
  obtain ⟨r, hr⟩ : ∃ r, r = l.length - k := ⟨_, rfl⟩
  rw [← hr] at HL
  rw [← hz]
  unfold endd at hz
  by_cases he : e = 0
  · have he1 : (e == 0) = true := by rw [beq_iff_eq]; exact he
    by_cases hk : k < l.length
    · have h0 : (0 : Int) < (r : Int) := by omega
      have HZ := Lib.hid (show z = 2 by rw [hz, if_pos ⟨he, hk⟩])
      clear h hr hz he hpl hk
      go_enter Tryz.func63, Tryz.ntmps63
      go_wp2_with fail
      refine (HL.out).mono ?_
      rintro x w1 ⟨rfl, n, rfl⟩
      go_wp2
      go_ret
      exact ⟨ret_i64' HZ.out.symm, _, rfl⟩
    · have h0 : ¬ (0 : Int) < (r : Int) := by omega
      have HZ := Lib.hid (show z = e by rw [hz, if_neg (fun h => hk h.2)])
      clear h hr hz he hpl hk
      go_enter Tryz.func63, Tryz.ntmps63
      go_wp2_with fail
      refine (HL.out).mono ?_
      rintro x w1 ⟨rfl, n, rfl⟩
      go_wp2
      go_ret
      exact ⟨ret_i64' HZ.out.symm, _, rfl⟩
  · have he1 : (e == 0) = false := by rw [beq_eq_false_iff_ne]; exact he
    have HZ := Lib.hid (show z = e by rw [hz, if_neg (fun h => he h.1)])
    clear h hr hz he hpl HL
    go_enter Tryz.func63, Tryz.ntmps63
    go_wp2
    go_ret
    exact ⟨ret_i64' HZ.out.symm, 0, rfl⟩

/-! ### a name -/
theorem pname_bad (l : List UInt8) (h : (Pk.pName l).e ≠ 0) : (Pk.pName l).v = ⟨0, 0, 0⟩ ∧ (Pk.pName l).n = 0 := by
  have hs := stp_name 0 l _ _ _ rfl rfl rfl
  rw [Pk.stp_ok] at hs
  rw [hs] at h ⊢
  split at h
  · exact absurd rfl h
  · rename_i h'
    rw [if_neg h']
    exact ⟨rfl, rfl⟩
set_option maxHeartbeats 800000 in
theorem in_name {lo C : Nat} {l : List UInt8} {k : Nat} {e : Int} {w : World} (h : Cu lo 165 w C l k e) :
    Calls Tryz.prog 137 #[.pointer (some ⟨C, 0, none⟩)] w fun x w' => x = .returned (nmv (Pk.stp ⟨0, 0, 0⟩ e (Pk.pName (l.drop k))).v) ∧ Cu lo 165 w' C l (k + (Pk.stp ⟨0, 0, 0⟩ e (Pk.pName (l.drop k))).n) (Pk.stp ⟨0, 0, 0⟩ e (Pk.pName (l.drop k))).e ∧ w.grownBy w' (some C) := by
  have hr := read_name (h.alloc (.cells #[.int .i64 0, .int .i64 0, .int .u64 0] 27))
  obtain ⟨q, hq⟩ : ∃ q, q = Pk.stp ⟨0, 0, 0⟩ e (Pk.pName (l.drop k)) := ⟨_, rfl⟩
  rw [← hq] at hr ⊢
  have hlt := h.lt
  have hlo := h.lo_le
  have hB := blk_new w 27 #[.int .i64 0, .int .i64 0, .int .u64 0]
  obtain ⟨y, hy⟩ : ∃ y, y = q.v := ⟨_, rfl⟩
  rw [← hy] at hr ⊢
  obtain ⟨y0, y1, y2⟩ := y
  have HR := Lib.hid hr
  have HB := Lib.hid hB
  have HG0 := Lib.hid (World.grownBy_alloc w (.cells #[.int .i64 0, .int .i64 0, .int .u64 0] 27) (some C))
  have HLO := Lib.hid hlo
  clear hr hq h hy hB hlo
  go_enter Tryz.func137, Tryz.ntmps137
  go_wp2_with fail
  refine (HR.out).mono ?_
  rintro x w1 ⟨rfl, hcu, hg⟩
  have hCB : C ≠ w.heap.size := by omega
  have hne : (some w.heap.size : Option Nat) ≠ some C := fun e => hCB (by injection e with e; exact e.symm)
  have hB1 := blk_grown HB.out hg hne
  have c0 : w1.cell? ⟨w.heap.size, 0, none⟩ = some (.int .i64 0) := hB1.cell 0
  have c1 : w1.cell? ⟨w.heap.size, 1, none⟩ = some (.int .i64 0) := hB1.cell 1
  have c2 : w1.cell? ⟨w.heap.size, 2, none⟩ = some (.int .u64 0) := hB1.cell 2
  have f0 : w1.frozen? ⟨w.heap.size, 0, none⟩ = false := hB1.frozen 0
  have f1 : w1.frozen? ⟨w.heap.size, 1, none⟩ = false := hB1.frozen 1
  have f2 : w1.frozen? ⟨w.heap.size, 2, none⟩ = false := hB1.frozen 2
  have HCU := Lib.hid hcu
  have HG := Lib.hid (HG0.out.trans hg)
  clear hB1 hcu hg HB HG0 HR
  unfold nmv
  go_wp2
  refine bodyPost_ret (v := .agg #[.int .i64 y0, .int .i64 y1, .int .u64 (y2 : Int)]) (by simp [results, go_sem, c0, c1, c2]) rfl ⟨rfl, ?_, grown_past (grown_past (grown_past HG.out (Nat.le_refl _) _ _) (Nat.le_refl _) _ _) (Nat.le_refl _) _ _⟩
  exact HCU.out.grown (only_set (only_set (only_set (only_refl _ (some w.heap.size)) 0 _) 1 _) 2 _) (fun g e => by injection e with e; subst e; exact ⟨by have := HLO.out; omega, fun h => hCB h.symm⟩)

/-! ### Open -/
theorem clone8_nil (w : World) : Calls Tryz.prog 129 #[.slice none 0 0] w fun e w' => e = .returned (.slice none 0 0) ∧ w = w' := by
  have q : ∀ (w : World) (a : Option Addr) (n c n' c' : Nat), (binOp .eql 28 (.slice a n c) (.slice none n' c')).run Tryz.prog w = .ok (.bool a.isNone) w := fun w a n c n' c' => Lib.run_eql_slice_nil w _ _ a n c n' c' Tryz.underlying28
  go_enter Tryz.func129, Tryz.ntmps129
  go_wp2
  go_ret
  exact ⟨rfl, rfl⟩
set_option maxHeartbeats 800000 in
theorem clone8_some (ad : Addr) (l : List UInt8) (m c : Nat) (w : World) (hm : m = l.length) (hmb : m ≤ 1000000) (hA : Rd w.heap.size w (some ad) (u8s l)) :
    Calls Tryz.prog 129 #[.slice (some ad) m c] w fun e w' => ∃ v, e = .returned v ∧ w'.ownsRow w.heap.size 5 1 v m (u8s l) ∧ Below w.heap.size w w' := by
  obtain ⟨i0, hi, hz0, hz1, hz2⟩ := info_parts info_u8
  have q : ∀ (w : World) (a : Option Addr) (n c n' c' : Nat), (binOp .eql 28 (.slice a n c) (.slice none n' c')).run Tryz.prog w = .ok (.bool a.isNone) w := fun w a n c n' c' => Lib.run_eql_slice_nil w _ _ a n c n' c' Tryz.underlying28
  have hlen : (u8s l).length = m * 1 := by rw [u8s_len]; omega
  have hcell1 : ∀ u ∈ u8s l, u.oneCell' = true := by
    intro u hu
    obtain ⟨x, _, rfl⟩ := List.mem_map.1 hu
    rfl
  have hsrc : ∀ j u, (u8s l)[j]? = some u → (w.alloc (.cells #[] 5)).cell? (ad.add j) = some u := by
    intro j u hu
    have hp : 0 < (u8s l).length := by
      have := (List.getElem?_eq_some_iff.1 hu).1
      omega
    obtain ⟨b, off, e, hb, hc⟩ := hA hp
    injection e with e
    subst e
    rw [Addr.add_lit]
    exact Lib.cell?_alloc_some _ (hc j u hu)
  have hmade := World.ownsRow_made (base := w.heap.size) (e := 5) (size := 1) w #[] 0 (Nat.le_refl _) (Nat.zero_le _) rfl
  have HL := Lib.hid hlen
  have HI := Lib.hid hi
  have HZ0 := Lib.hid hz0
  have HZ1 := Lib.hid hz1
  have HZ2 := Lib.hid hz2
  have HS := Lib.hid hsrc
  have HC := Lib.hid hcell1
  have HN := Lib.hid hmade
  clear hlen hi hz0 hz1 hz2 hsrc hcell1 hmade hm hA
  go_enter Tryz.func129, Tryz.ntmps129
  go_wp2_with (at_builtin; refine wpList_append_own _ rfl _ _ 28 rfl w.heap.size 5 i0 (.int .u8 0) 1 1 Tryz.underlying28 HI.out HZ0.out HZ1.out HZ2.out rfl (by decide) _ 0 [] rfl HN.out ad m c (u8s l) rfl HL.out HS.out HC.out (by unfold maxLen; omega) (by omega) (by simp) ?_; intro v' w1 hown' hgrow _; have HO := Lib.hid hown'; clear hown')
  go_ret
  have ho := HO.out
  rw [List.nil_append, Nat.zero_add] at ho
  exact ⟨_, rfl, ho, ((Below.refl _ w).alloc (Nat.le_refl _) _).grown hgrow (by simp) (fun j e => by injection e with e; exact Nat.le_of_eq e)⟩
theorem own8 {w : World} {lo : Nat} {v : Value} {l : List UInt8} {n : Nat} (h : w.ownsRow lo 5 1 v n (u8s l)) :
    ∃ A c, v = .slice A n c ∧ n = l.length ∧ n ≤ c ∧ Rd w.heap.size w A (u8s l) ∧ (A = none → n = 0 ∧ c = 0) := by
  have hl : n = l.length := by have := h.1; rw [u8s_len] at this; omega
  rcases h.2 with ⟨rfl, h0⟩ | ⟨g, cp, cur, rfl, hg, hb, h1, h2, h3, h4⟩
  · refine ⟨none, 0, by rw [h0], hl, by omega, fun hp => ?_, fun _ => ⟨h0, rfl⟩⟩
    rw [u8s_len] at hp; omega
  · refine ⟨_, cp, rfl, hl, by omega, fun _ => ⟨g, 0, rfl, ?_, fun i u hu => ?_⟩, fun e => by cases e⟩
    · rcases Nat.lt_or_ge g w.heap.size with h5 | h5
      · exact h5
      · rw [Array.getElem?_eq_none h5] at hb; cases hb
    · rw [Nat.zero_add, cell_block hb i]
      rw [← h4, List.getElem?_take] at hu
      split at hu
      · simpa using hu
      · cases hu
theorem clone8_any (A : Option Addr) (l : List UInt8) (m c : Nat) (w : World) (hm : m = l.length) (hmb : m ≤ 1000000) (hA : Rd w.heap.size w A (u8s l)) (hnil : A = none → m = 0 ∧ c = 0) :
    Calls Tryz.prog 129 #[.slice A m c] w fun e w' => ∃ A' c', e = .returned (.slice A' m c') ∧ w'.ownsRow w.heap.size 5 1 (.slice A' m c') m (u8s l) ∧ Below w.heap.size w w' := by
  rcases A with _ | ad
  · obtain ⟨rfl, rfl⟩ := hnil rfl
    have hl : l = [] := List.eq_nil_of_length_eq_zero (by omega)
    subst hl
    refine (clone8_nil w).mono ?_
    rintro e w' ⟨rfl, rfl⟩
    exact ⟨none, 0, rfl, World.ownsRow_nil w w.heap.size 5 1, Below.refl _ _⟩
  · refine (clone8_some ad l m c w hm hmb hA).mono ?_
    rintro e w' ⟨v, rfl, ho, hb⟩
    obtain ⟨A', c', rfl, _⟩ := own8 ho
    exact ⟨A', c', rfl, ho, hb⟩
set_option maxHeartbeats 800000 in
theorem open_any (A : Option Addr) (l : List UInt8) (m c : Nat) (w : World) (hm : m = l.length) (hmb : m ≤ 1000000) (hA : Rd w.heap.size w A (u8s l)) (hnil : A = none → m = 0 ∧ c = 0) :
    Calls Tryz.prog 60 #[.slice A m c] w fun e w' => ∃ C, e = .returned (.pointer (some ⟨C, 0, none⟩)) ∧ w.heap.size ≤ C ∧ Cu C 165 w' C l 0 0 ∧ Below w.heap.size w w' := by
  have HC := Lib.hid (clone8_any A l m c w hm hmb hA hnil)
  have HM := Lib.hid (And.intro hm hmb)
  clear hm hmb hA hnil
  go_enter Tryz.func60, Tryz.ntmps60
  go_wp2_with fail
  refine (HC.out).mono ?_
  rintro e w1 ⟨A', c', rfl, ho, hb⟩
  have HO := Lib.hid ho
  have HB := Lib.hid hb
  clear ho hb HC
  go_wp2
  go_ret
  obtain ⟨A2, c2, e, h1, h2, h3, _⟩ := own8 HO.out
  injection e with e1 e2 e3
  subst e1 e3
  have hm := HM.out.1
  have hlt := HB.out.size
  refine ⟨w1.heap.size, rfl, hlt, ⟨A', c', ?_, fun hp => ?_, Nat.le_refl _, Nat.zero_le _, by omega, by have := HM.out.2; omega⟩, HB.out.alloc hlt _⟩
  · rw [← hm]; exact blk_new w1 165 #[.slice A' m c', .int .i64 0, .int .i64 0]
  · obtain ⟨b, off, e, hb, hc⟩ := h3 hp
    exact ⟨b, off, e, hb, fun i u hu => Lib.cell?_alloc_some _ (hc i u hu)⟩

end Go.Proofs.YtkicjjcangkneaaGreatDoor
