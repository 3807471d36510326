/-
  ShareRow: the row of shares is nothing, and one more that fits tells nothing else.
-/
import Derived.Test.YthnbkbmhlalpaaaShm
namespace Go.Proofs.Ythnbkbmhlalpaaa
open Go.RowKit Go.Maps
attribute [local go_sem ↓] Go.wp_at_zero Go.wp_at_succ

theorem rev_next {α : Type} {l : List α} {j : Nat} {x : α} (h : l[j]? = some x) : (l.drop j).reverse = (l.drop (j + 1)).reverse ++ [x] := by
  obtain ⟨h1, h2⟩ := List.getElem?_eq_some_iff.1 h
  rw [List.drop_eq_getElem_cons h1, List.reverse_cons, h2]

/-- A list behind a list, where the operation is guarded, and wanted. -/
theorem wpList_app64w {ops : Array Oper} {rest : List Oper} {o : Oper} {a : Act} {Q : Exit → Act → World → Prop} {w : World} (hw : Region.wanted o (yielded ops a.tmps) = true) (s x : Operand)
    (ho : o.op = .call { callee := .builtin .append, args := #[s, x], argTypes := #[23, 23] }) (B : Nat) (L l2 : List Nat) (u : Value) (A2 : Option Addr) (q c2 : Nat) (hg : Gl B w u L) (hs : a.eval s = u) (hx : a.eval x = .slice A2 q c2)
    (hq : q = l2.length) (hR : Rd w.heap.size w A2 (u64s l2)) (hnil : A2 = none → c2 = 0 ∧ q = 0) (hk : L.length + q ≤ 1000000000) (hB : B ≤ w.heap.size)
    (h : ∀ z w1, Gl B w1 z (L ++ l2) → Below B w w1 → wpList Try.prog ops Q rest (a.put o.dst z) w1) : wpList Try.prog ops Q (o :: rest) a w := by
  obtain ⟨i0, hi, hz0, hz1, hz2⟩ := info_parts info_u64
  obtain ⟨A, c, rfl, hrow⟩ := hg
  refine wpList_step fun K hK => ?_
  rw [if_pos hw]
  rcases A2 with _ | ad
  · obtain ⟨rfl, rfl⟩ := hnil rfl
    obtain rfl : l2 = [] := List.eq_nil_of_length_eq_zero hq.symm
    have hrun := run_append_owned_none (P := Try.prog) (w := w) B 23 o.type 22 i0 1 Try.underlying23 hi _ _ _ hrow
    unfold Oper.wp
    simp [execOp, ho, resolve, invoke, builtin, hs, hx, hrun, Result.andThen]
    exact hK _ _ (h _ w ⟨A, c, by rw [List.append_nil], by rw [List.append_nil]; exact hrow⟩ (Below.refl _ _))
  · refine wp_append_own w s x 23 ho B 22 i0 (.int .u64 0) 1 8 Try.underlying23 hi hz0 hz1 hz2 rfl (by decide) _ _ _ hs hrow ad q c2 (u64s l2) hx (by rw [u64s_len, hq, Nat.mul_one]) ?_ ?_ (by unfold maxLen; omega) (by omega) hB ?_
    · rcases Nat.eq_zero_or_pos q with h0 | h0
      · obtain rfl : l2 = [] := List.eq_nil_of_length_eq_zero (by omega)
        intro j v hv
        simp [u64s] at hv
      · obtain ⟨b, off, e, _, hc⟩ := hR (by rw [u64s_len]; omega)
        injection e with e
        subst e
        intro j v hv
        rw [Addr.add_lit]
        exact hc j v hv
    · intro v hv
      obtain ⟨y, _, rfl⟩ := List.mem_map.1 hv
      rfl
    · intro v' w1 hown hgrow _
      have hown2 : w1.ownsRow B 22 1 v' (L.length + q) (u64s (L ++ l2)) := by
        have e : u64s (L ++ l2) = u64s L ++ u64s l2 := by unfold u64s; rw [List.map_append]
        rw [e]; exact hown
      obtain ⟨A', c', rfl⟩ : ∃ A' c', v' = .slice A' (L.length + q) c' := by
        rcases hown.2 with ⟨rfl, h0⟩ | ⟨g, cp, _, rfl, _⟩
        · exact ⟨none, 0, by rw [h0]⟩
        · exact ⟨_, cp, rfl⟩
      refine hK _ _ (h _ w1 ⟨A', c', by rw [List.length_append, hq], by rw [List.length_append, ← hq]; exact hown2⟩ ?_)
      exact (Below.refl B w).grown hgrow hB (fun j e => (hrow.lt j e).1)

set_option maxRecDepth 100000 in
set_option maxHeartbeats 4000000 in
theorem row_walk (s n c m2 c2 x : Nat) (A A2 : Option Addr) (l : List Nat) (is : List Int) (w : World) (hs : s < 18446744073709551616) (hA : In w A n c l) (hI : Iz w A2 m2 is) (hx : x < 18446744073709551616) :
    Calls Try.prog 9 #[.int .u64 (s : Int), .slice A n c, .slice A2 m2 c2, .int .u64 (x : Int)] w fun e w' => e = .returned (.bool true) ∧ Below w.heap.size w w' := by
  have HN := Lib.hid (numsn_v hA 4 (by omega))
  have HI := Lib.hid hI
  obtain ⟨f, hf⟩ : ∃ f, f = s :: l.take 4 := ⟨_, rfl⟩
  have HF := Lib.hid hf
  have HLV := Lib.hid (fun W => lives9_any W)
  clear hA hI hf
  go_enter Try.func9, Try.ntmps9
  go_wp2_with fail
  refine (HN.out).mono ?_
  rintro e w1 ⟨⟨o, rfl, ho⟩, hb1⟩
  obtain ⟨Ac, m, cc, rfl, hp, hxl, hm4⟩ := id ho
  have HO1 := Lib.hid ho
  have HP1 := Lib.hid hp
  have HX := Lib.hid hxl
  have HI1 := Lib.hid (HI.out.below hb1)
  have K1 := Lib.hid hb1
  have hfl : f.length = m + 1 := by rw [HF.out, List.length_cons, ← hp.1]
  have HFL := Lib.hid hfl
  have HM4 := Lib.hid hm4
  have hfb : ∀ y ∈ f, y < 18446744073709551616 := by
    rw [HF.out]
    intro y hy
    rcases List.mem_cons.1 hy with h | h
    · rw [h]; exact hs
    · exact hxl y h
  have HFB := Lib.hid hfb
  clear ho hb1 HN HI hp hxl hfl hfb
  go_wp2_with fail
  refine (split_v HF.out HO1.out (by omega) hs (by omega : 9 ≤ 1000)).mono ?_
  rintro e w2 ⟨⟨B2, c3, rfl, h2⟩, hb2⟩
  have HS2 := Lib.hid h2
  have HP2 := Lib.hid (HP1.out.below hb2)
  have HI2 := Lib.hid (HI1.out.below hb2)
  have K2 := Lib.hid (kept_trans K1.out hb2)
  clear hb2 h2 HI1 HO1 HP1 K1
  go_wp2_with fail
  refine (some_v (most := 5) (q := 5) HS2.out HI2.out (by omega) (by omega) (by omega) rfl).mono ?_
  rintro e w4 ⟨⟨B4, c4, L, rfl, h4, hL⟩, hb4⟩
  have HL4 := Lib.hid h4
  have HP4 := Lib.hid (HP2.out.below hb4)
  have K4 := Lib.hid (kept_trans K2.out hb4)
  have h5 : L.length = 5 := h4.len.symm
  have HT := Lib.hid (hL.tell (by omega) (by rw [HFL.out, h5]; have := HM4.out; omega) (by rw [HFL.out]; omega) x)
  have hof := (Sr.Row.split f 9).some (by rw [Sr.split_len]; omega) hL
  have HTR := Lib.hid (hof.rev.tell (Pl.Lt.co f) (by rw [List.length_reverse, HFL.out, h5]; have := HM4.out; omega) (by intro e; have := congrArg List.length e; rw [List.length_reverse, h5] at this; cases this) x)
  have H5 := Lib.hid h5
  have HSM := Lib.hid (hL.small (by omega))
  clear hb4 h4 hL HS2 HI2 HP2 K2 h5 hof
  go_wp2
  go_loopw [11, 12] (fun o i wr => ∃ k : Nat, i = .int .i64 ((k : Int) - 1) ∧ k ≤ 5 ∧ So w4.heap.size wr o (L.drop k).reverse ∧ Below w4.heap.size w4 wr) (fun _ i _ => (intOf i + 1).toNat)
  case atStart => exact ⟨5, rfl, Nat.le_refl _, by rw [List.drop_of_length_le (by rw [H5.out]; exact Nat.le_refl _)]; exact So.nil _ _, Below.refl _ _⟩
  case round =>
    obtain ⟨k, rfl, hk, hso, hb⟩ := hrel
    have HSO := Lib.hid hso
    have HB := Lib.hid hb
    have hsz := hb.size
    clear hso hb
    cases k with
    | succ j =>
      have e1 : (((j + 1 : Nat) : Int) - 1) = (j : Int) := by omega
      rw [e1]
      have hj : j < 5 := by omega
      obtain ⟨t, ht⟩ : ∃ t, L[j]? = some t := ⟨L[j]'(by have := H5.out; omega), List.getElem?_eq_getElem _⟩
      obtain ⟨b, off, rfl, hbb, -, c1, c2⟩ := HL4.out.spot ht
      have hrn := rev_next ht
      obtain ⟨a, v⟩ := t
      have r1 := (HB.out.cell (p := ⟨b, off + j * 2, none⟩) hbb).trans c1
      have r2 := (HB.out.cell (p := ⟨b, off + j * 2 + 1, none⟩) hbb).trans c2
      have HRN := Lib.hid hrn
      have HLN := Lib.hid (show (L.drop (j + 1)).reverse.length ≤ 1000000000 by rw [List.length_reverse, List.length_drop, H5.out]; omega)
      have q1 : (j : Int) < 5 := by omega
      have q0 : (0 : Int) ≤ (j : Int) := by omega
      clear ht hrn c1 c2 e1 hk
      go_wp2_with (at_builtin; refine wpList_pushS rfl _ _ rfl w4.heap.size a v _ _ HSO.out rfl rfl HLN.out hsz ?_; intro z3 w5 hz3 hb3; have HZ3 := Lib.hid hz3; have HB3 := Lib.hid (HB.out.trans hb3); clear hz3 hb3)
      go_roundw
      case rel => exact ⟨j, by go_num, by omega, by rw [HRN.out]; exact HZ3.out, HB3.out⟩
      case measure => first | (simp [intOf]; done) | (simp [intOf]; omega)
    | zero =>
      have hso := HSO.out
      rw [List.drop_zero] at hso
      obtain ⟨B6, c6, rfl, h6⟩ := hso.st (fun t ht => HSM.out t (List.mem_reverse.1 ht))
      rw [List.length_reverse, H5.out] at h6 ⊢
      have HR6 := Lib.hid h6
      have HL6 := Lib.hid (HL4.out.below HB.out)
      have HP6 := Lib.hid (HP4.out.below HB.out)
      have K6 := Lib.hid (kept_trans K4.out HB.out)
      obtain ⟨y, hy⟩ : ∃ y, y = vl (Pl.co f) x := ⟨_, rfl⟩
      have HT6 := HT
      have HTR6 := HTR
      rw [← hy] at HT6 HTR6
      have hye : Hid (Pl.hv x f = y) := Lib.hid (by rw [hv_vl, hy])
      clear hso h6 HB HSO HL4 HP4 K4 hy HT HTR
      go_wp2_with fail
      refine (at_any B4 5 c4 x y 0 L wr HL6.out (by omega) hx HT6.out).mono ?_
      rintro e w7 ⟨rfl, hb7⟩
      have HR7 := Lib.hid (HR6.out.below hb7)
      have HP7 := Lib.hid (HP6.out.below hb7)
      have K7 := Lib.hid (kept_trans K6.out hb7)
      clear hb7 HL6 HR6 HP6 K6
      go_wp2_with fail
      refine (at_any B6 5 c6 x y 0 _ w7 HR7.out (by omega) hx HTR6.out).mono ?_
      rintro e w8 ⟨rfl, hb8⟩
      have K8 := Lib.hid (kept_trans K7.out hb8)
      have HP8 := Lib.hid ((HP7.out.below hb8).new (.cells #[.int .u64 (s : Int)] 22))
      have HG8 := Lib.hid (gl_one w8 s)
      have hsz8 : w8.heap.size ≤ (w8.alloc (.cells #[.int .u64 (s : Int)] 22)).heap.size := by simp
      have K9 := Lib.hid (K8.out.alloc K8.out.size (.cells #[.int .u64 (s : Int)] 22))
      clear hb8 HR7 HP7 K7
      go_wp2_with (refine wpList_app64w (by rfl) _ _ rfl w8.heap.size [s] _ _ Ac m cc HG8.out rfl rfl HP8.out.1 HP8.out.2.1 (fun e => ⟨HP8.out.2.2.2 e, by have h1 := HP8.out.2.2.1; have h2 := HP8.out.2.2.2 e; omega⟩) (by simp; omega) hsz8 ?_; intro z10 w10 hg10 hb10; have HZ := Lib.hid hg10; clear hg10)
      have hzf : Gl w8.heap.size w10 z10 f := by rw [HF.out]; exact HZ.out
      obtain ⟨Af, cf, rfl, hp, -⟩ := hzf.pt
      rw [HFL.out] at hp ⊢
      have hev := eval_poly Af (m + 1) cf x f w10 (by omega) hx hp.1 HFB.out hp.2.1
      rw [hye.out] at hev
      have HEV := Lib.hid hev
      have K10 := Lib.hid (K9.out.trans (hb10.mono K8.out.size))
      clear hp hev hzf HZ HG8 HP8 K9 hsz8 hb10
      go_wp2_with fail
      refine (HEV.out).mono ?_
      rintro e w11 ⟨rfl, hb11⟩
      have K11 := Lib.hid (K10.out.trans (hb11.mono K10.out.size))
      clear hb11 HEV
      go_wp2_with fail
      refine (HLV.out _).mono ?_
      rintro e w12 ⟨rfl, hb12⟩
      have K12 := Lib.hid (K11.out.trans (hb12.mono K11.out.size))
      clear hb12
      go_wp2
      go_ret
      exact ⟨rfl, K12.out⟩

end Go.Proofs.Ythnbkbmhlalpaaa
