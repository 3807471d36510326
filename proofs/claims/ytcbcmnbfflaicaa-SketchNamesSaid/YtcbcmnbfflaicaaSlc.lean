/-
  SketchNames, walked: of operations' names, some of which both have, Diff tells the elements of just those that one has alone.
-/
import Derived.Test.YtcbcmnbfflaicaaSla
namespace Go.Proofs.Ytcbcmnbfflaicaa
open Go.RowKit
open Sk (pt Fit)

/-! ### three lists that grow beside each other -/
/-- Three lists of their own that share no memory. -/
structure G3 (B : Nat) (w : World) (oa ob ot : Value) (La Lb Lt : List Nat) : Prop where
  a : Gb B w oa La
  b : Gb B w ob Lb
  t : Gb B w ot Lt
  ab : Apart oa ob
  ta : Apart ot oa
  tb : Apart ot ob
theorem G3.below {B : Nat} {w w' : World} {oa ob ot : Value} {La Lb Lt : List Nat} (h : G3 B w oa ob ot La Lb Lt) (hb : Below w.heap.size w w') : G3 B w' oa ob ot La Lb Lt := ⟨h.a.below hb, h.b.below hb, h.t.below hb, h.ab, h.ta, h.tb⟩
theorem Apart.none_left (b : Value) : Apart (.slice none 0 0) b := fun k h => by simp [Value.ownBlock] at h
theorem wpList_push3 {ops : Array Oper} {rest : List Oper} {o : Oper} {a : Act} {Q : Exit → Act → World → Prop} {w : World} (hgd : o.guard = none) (s x : Operand)
    (ho : o.op = .call { callee := .builtin .append, args := #[s, x], argTypes := #[25, 25] }) (hty : o.type = 25) (B v : Nat) (L L2 L3 : List Nat) (u u2 u3 : Value) (hg : Gb B w u L) (hg2 : Gb B w u2 L2) (hg3 : Gb B w u3 L3) (hap : Apart u u2) (hap3 : Apart u u3) (hs : a.eval s = u) (hx : a.eval x = .slice (some ⟨w.heap.size, 0, none⟩) 1 1) (hk : L.length + 1 ≤ 10000000) (hB : B ≤ w.heap.size)
    (h : ∀ z w1, Gb B w1 z (L ++ [v]) → Gb B w1 u2 L2 → Gb B w1 u3 L3 → Apart z u2 → Apart z u3 → Below B w w1 → wpList Try.prog ops Q rest (a.put o.dst z) w1) : wpList Try.prog ops Q (o :: rest) a (w.alloc (.cells #[.int .u64 (v : Int)] 22)) := by
  obtain ⟨g, c, w1, hr, h1, h2, h3⟩ := push_own v hg hB hk
  have key : ∀ {y : Value} {K : List Nat}, Gb B w y K → Apart u y → Apart (.slice (some ⟨g, 0, none⟩) (L.length + 1) c) y := by
    intro y K hy hp k hk1 hk2
    have e : k = g := by injection hk1
    subst e
    rcases h3 with h3 | h3
    · exact hp k h3 hk2
    · obtain ⟨A2, c2, _, hrow2⟩ := hy
      have := (own_ge hrow2 hk2).2
      omega
  have hal := (Below.refl w.heap.size w).alloc (Nat.le_refl _) (.cells #[.int .u64 (v : Int)] 22)
  refine wpList_plain hgd fun K hK => ?_
  unfold Oper.wp execOp
  simp only [ho, hty, resolve, invoke, builtin, Sem.run_bind, Sem.run_pure, Result.andThen_ok, List.map_toArray, List.map_cons, List.map_nil, hs, hx, hr]
  refine hK _ _ (h _ w1 ⟨_, c, by rw [List.length_append]; rfl, by rw [List.length_append]; exact h1⟩ ((hg2.below hal).grown h2 hap.symm) ((hg3.below hal).grown h2 hap3.symm) (key hg2 hap) (key hg3 hap3) ?_)
  exact ((Below.refl B w).alloc hB _).grown h2 (by simp; omega) (fun j e => (own_ge (by obtain ⟨A0, c0, _, hrow⟩ := hg; exact hrow) e.symm).1)
theorem wpList_pusht {ops : Array Oper} {rest : List Oper} {o : Oper} {a : Act} {Q : Exit → Act → World → Prop} {w : World} (hgd : o.guard = none) (s x : Operand)
    (ho : o.op = .call { callee := .builtin .append, args := #[s, x], argTypes := #[25, 25] }) (hty : o.type = 25) (B v : Nat) (La Lb Lt : List Nat) (oa ob ot : Value) (hg : G3 B w oa ob ot La Lb Lt) (hs : a.eval s = ot) (hx : a.eval x = .slice (some ⟨w.heap.size, 0, none⟩) 1 1) (hk : Lt.length + 1 ≤ 10000000) (hB : B ≤ w.heap.size)
    (h : ∀ z w1, G3 B w1 oa ob z La Lb (Lt ++ [v]) → Below B w w1 → wpList Try.prog ops Q rest (a.put o.dst z) w1) : wpList Try.prog ops Q (o :: rest) a (w.alloc (.cells #[.int .u64 (v : Int)] 22)) :=
  wpList_push3 hgd s x ho hty B v _ _ _ _ _ _ hg.t hg.a hg.b hg.ta hg.tb hs hx hk hB fun z w1 h1 h2 h3 p2 p3 hb => h z w1 ⟨h2, h3, h1, hg.ab, p2, p3⟩ hb
theorem wpList_pusha {ops : Array Oper} {rest : List Oper} {o : Oper} {a : Act} {Q : Exit → Act → World → Prop} {w : World} (hgd : o.guard = none) (s x : Operand)
    (ho : o.op = .call { callee := .builtin .append, args := #[s, x], argTypes := #[25, 25] }) (hty : o.type = 25) (B v : Nat) (La Lb Lt : List Nat) (oa ob ot : Value) (hg : G3 B w oa ob ot La Lb Lt) (hs : a.eval s = oa) (hx : a.eval x = .slice (some ⟨w.heap.size, 0, none⟩) 1 1) (hk : La.length + 1 ≤ 10000000) (hB : B ≤ w.heap.size)
    (h : ∀ z w1, G3 B w1 z ob ot (La ++ [v]) Lb Lt → Below B w w1 → wpList Try.prog ops Q rest (a.put o.dst z) w1) : wpList Try.prog ops Q (o :: rest) a (w.alloc (.cells #[.int .u64 (v : Int)] 22)) :=
  wpList_push3 hgd s x ho hty B v _ _ _ _ _ _ hg.a hg.b hg.t hg.ab hg.ta.symm hs hx hk hB fun z w1 h1 h2 h3 p2 p3 hb => h z w1 ⟨h1, h2, h3, p2, p3.symm, hg.tb⟩ hb
theorem wpList_pushb {ops : Array Oper} {rest : List Oper} {o : Oper} {a : Act} {Q : Exit → Act → World → Prop} {w : World} (hgd : o.guard = none) (s x : Operand)
    (ho : o.op = .call { callee := .builtin .append, args := #[s, x], argTypes := #[25, 25] }) (hty : o.type = 25) (B v : Nat) (La Lb Lt : List Nat) (oa ob ot : Value) (hg : G3 B w oa ob ot La Lb Lt) (hs : a.eval s = ob) (hx : a.eval x = .slice (some ⟨w.heap.size, 0, none⟩) 1 1) (hk : Lb.length + 1 ≤ 10000000) (hB : B ≤ w.heap.size)
    (h : ∀ z w1, G3 B w1 oa z ot La (Lb ++ [v]) Lt → Below B w w1 → wpList Try.prog ops Q rest (a.put o.dst z) w1) : wpList Try.prog ops Q (o :: rest) a (w.alloc (.cells #[.int .u64 (v : Int)] 22)) :=
  wpList_push3 hgd s x ho hty B v _ _ _ _ _ _ hg.b hg.a hg.t hg.ab.symm hg.tb.symm hs hx hk hB fun z w1 h1 h2 h3 p2 p3 hb => h z w1 ⟨h2, h1, h3, p2.symm, hg.ta, p3.symm⟩ hb

/-! ### the lists, without any program -/
/-- Names' elements: all, and which of them the one has, and the other one. -/
structure Nm (La Lb Lt : List Nat) (k : Nat) : Prop where
  nt : Lt.Nodup
  et : El Lt
  na : La.Nodup
  nb : Lb.Nodup
  sa : ∀ x ∈ La, x ∈ Lt
  sb : ∀ x ∈ Lb, x ∈ Lt
  lt : Lt.length ≤ k
theorem Nm.start : Nm [] [] [] 0 := ⟨List.nodup_nil, fun _ h => (by cases h), List.nodup_nil, List.nodup_nil, fun _ h => h, fun _ h => h, Nat.le_refl _⟩
theorem Nm.skip {La Lb Lt : List Nat} {k : Nat} (h : Nm La Lb Lt k) : Nm La Lb Lt (k + 1) := ⟨h.nt, h.et, h.na, h.nb, h.sa, h.sb, by have := h.lt; omega⟩
theorem snoc_nodup {l : List Nat} {x : Nat} (h : l.Nodup) (hx : x ∉ l) : (l ++ [x]).Nodup := by
  rw [List.nodup_append]
  refine ⟨h, by simp, fun u hu v hv e => ?_⟩
  rw [List.mem_singleton] at hv
  subst hv
  subst e
  exact hx hu
theorem Nm.all {La Lb Lt : List Nat} {k x : Nat} (h : Nm La Lb Lt k) (hx : x ∉ Lt) (hl : 1 ≤ x ∧ x ≤ 1152921504606846976) : Nm La Lb (Lt ++ [x]) (k + 1) :=
  ⟨snoc_nodup h.nt hx, fun y hy => by
    rw [List.mem_append, List.mem_singleton] at hy
    rcases hy with hy | rfl
    · exact h.et y hy
    · exact hl, h.na, h.nb, fun y hy => List.mem_append_left _ (h.sa y hy), fun y hy => List.mem_append_left _ (h.sb y hy), by have := h.lt; rw [List.length_append, List.length_singleton]; omega⟩
theorem Nm.one {La Lb Lt : List Nat} {k x : Nat} (h : Nm La Lb (Lt ++ [x]) k) (hx : x ∉ La) : Nm (La ++ [x]) Lb (Lt ++ [x]) k :=
  ⟨h.nt, h.et, snoc_nodup h.na hx, h.nb, fun y hy => by
    rw [List.mem_append] at hy
    rcases hy with hy | hy
    · exact h.sa y hy
    · exact List.mem_append_right _ hy, h.sb, h.lt⟩
theorem Nm.two {La Lb Lt : List Nat} {k x : Nat} (h : Nm La Lb (Lt ++ [x]) k) (hx : x ∉ Lb) : Nm La (Lb ++ [x]) (Lt ++ [x]) k :=
  ⟨h.nt, h.et, h.na, snoc_nodup h.nb hx, h.sa, fun y hy => by
    rw [List.mem_append] at hy
    rcases hy with hy | hy
    · exact h.sb y hy
    · exact List.mem_append_right _ hy, h.lt⟩
theorem Nm.la {La Lb Lt : List Nat} {k : Nat} (h : Nm La Lb Lt k) : La.length ≤ k := Nat.le_trans (sub_len h.na h.sa h.et.lt) h.lt
theorem Nm.lb {La Lb Lt : List Nat} {k : Nat} (h : Nm La Lb Lt k) : Lb.length ≤ k := Nat.le_trans (sub_len h.nb h.sb h.et.lt) h.lt
theorem Nm.stA {La Lb Lt : List Nat} {k : Nat} (h : Nm La Lb Lt k) : St La := ⟨h.na, fun x hx => h.et x (h.sa x hx)⟩
theorem Nm.stB {La Lb Lt : List Nat} {k : Nat} (h : Nm La Lb Lt k) : St Lb := ⟨h.nb, fun x hx => h.et x (h.sb x hx)⟩
theorem onl_ex (a b : List Nat) (ha : a.Nodup) : ∃ L, Onl a b a.length L := by
  refine ⟨(a.filter fun v => decide (v ∉ b)).mergeSort (fun x y => decide (x ≤ y)), ?_, fun x => ?_⟩
  · have h1 := List.pairwise_mergeSort (le := fun x y : Nat => decide (x ≤ y)) (fun a b c h1 h2 => by simp at h1 h2 ⊢; omega) (fun a b => by simp; omega) (a.filter fun v => decide (v ∉ b))
    have h2 : ((a.filter fun v => decide (v ∉ b)).mergeSort (fun x y => decide (x ≤ y))).Nodup := (List.mergeSort_perm _ _).nodup_iff.2 (List.Nodup.sublist List.filter_sublist ha)
    have h3 := List.Pairwise.and h1 h2
    exact h3.imp fun {x y} h => by
      have h4 := of_decide_eq_true h.1
      have h5 := h.2
      omega
  · rw [(List.mergeSort_perm _ _).mem_iff, List.mem_filter, List.take_length]
    simp
/-- What only the one has, and only the other one has: together no more than all. -/
theorem Nm.df {La Lb Lt : List Nat} {k : Nat} (h : Nm La Lb Lt k) : ∃ x y, Onl La Lb La.length x ∧ Onl Lb La Lb.length y ∧ x.length + y.length ≤ k := by
  obtain ⟨x, hx⟩ := onl_ex La Lb h.na
  obtain ⟨y, hy⟩ := onl_ex Lb La h.nb
  refine ⟨x, y, hx, hy, ?_⟩
  have hn : (x ++ y).Nodup := by
    rw [List.nodup_append]
    refine ⟨hx.nodup, hy.nodup, fun u hu v hv e => ?_⟩
    subst e
    have h1 := (hx.mem u).1 hu
    have h2 := (hy.mem u).1 hv
    rw [List.take_length] at h1 h2
    exact h1.2 h2.1
  have h1 := sub_len hn (L := Lt) (fun v hv => by
    rcases List.mem_append.1 hv with hv | hv
    · exact h.sa v (List.mem_of_mem_take ((hx.mem v).1 hv).1)
    · exact h.sb v (List.mem_of_mem_take ((hy.mem v).1 hv).1)) h.et.lt
  rw [List.length_append] at h1
  exact Nat.le_trans h1 h.lt
/-- Gb as a list that can be handed on. -/
theorem Gb.nv3 {B d : Nat} {w : World} {o : Value} {L : List Nat} (h : Gb B w o L) (hs : El L) (hd : L.length ≤ d) : Nv w o L d := by
  obtain ⟨A, c, rfl, hp⟩ := h.list rfl
  exact ⟨A, _, c, rfl, hp, hs.big, hd⟩
theorem of14_v {w : World} {o : Value} {l : List Nat} {d : Nat} (h : Nv w o l d) (hd : d ≤ 1000) :
    Calls Try.prog 13 #[o, .int .i64 14] w fun e w' => (∃ A c, e = .returned (skv l.length A 14 c) ∧ Kt w' A c l 14) ∧ Below w.heap.size w w' := of_v (n := 14) h hd (by omega)
theorem around4 {z : Int} (w : World) (h1 : -9223372036854775808 ≤ z) (h2 : z ≤ 9223372036854775807) :
    Calls Try.prog 12 #[.int .i64 z, .int .i64 4] w fun e w' => (∃ r : Int, (r = 0 ∨ r = 1 ∨ r = 2 ∨ r = 3) ∧ e = .returned (.int .i64 r)) ∧ w' = w := by
  refine (around_any z 4 w h1 h2 (by omega) (by omega)).mono ?_
  rintro e w' ⟨r, hr, rfl, rfl⟩
  exact ⟨⟨(r : Int), by omega, rfl⟩, rfl⟩

set_option maxRecDepth 100000 in
set_option maxHeartbeats 16000000 in
theorem names_walk (A A2 : Option Addr) (n c n2 c2 : Nat) (ids : List Idn) (lk : List Int) (w : World) (hnb : n ≤ 9223372036854775807) (hI : Is3 w A n c ids) (hL : Iz w A2 n2 lk) :
    Calls Try.prog 9 #[.slice A n c, .slice A2 n2 c2] w fun e w' => e = .returned (.bool true) ∧ Below w.heap.size w w' := by
  have HI := Lib.hid hI
  have HIL := Lib.hid hI.len
  have HL := Lib.hid hL
  have hnb2 : (n : Int) ≤ 9223372036854775807 := by omega
  have hmb : (n2 : Int) ≤ 9223372036854775807 := by have := hL.2.1; omega
  clear hI hL
  go_enter Try.func9, Try.ntmps9
  go_wp2
  go_loopw [5, 6, 7, 8] (fun oa ob ot i wr => ∃ (k : Nat) (La Lb Lt : List Nat), i = .int .i64 (k : Int) ∧ k ≤ 12 ∧ Nm La Lb Lt k ∧ G3 w.heap.size wr oa ob ot La Lb Lt ∧ Below w.heap.size w wr) (fun _ _ _ i _ => n - (intOf i).toNat)
  case atStart => exact ⟨0, [], [], [], rfl, Nat.zero_le _, Nm.start, ⟨Gb.nil _ _, Gb.nil _ _, Gb.nil _ _, Apart.none_left _, Apart.none_left _, Apart.none_left _⟩, Below.refl _ _⟩
  case round =>
    obtain ⟨k, La, Lb, Lt, rfl, hk12, hnm, hg, hb⟩ := hrel
    have HN := Lib.hid hnm
    have HG := Lib.hid hg
    have HB := Lib.hid hb
    clear hnm hg hb
    by_cases hlt : k < n
    · by_cases h12 : k < 12
      · obtain ⟨t, ht⟩ : ∃ t, ids[k]? = some t := ⟨ids[k]'(by have := HIL.out; omega), List.getElem?_eq_getElem _⟩
        have hts := HI.out.sm t (List.mem_of_getElem? ht)
        obtain ⟨ib, off, rfl, hib, hcs⟩ := HI.out.rd (by omega)
        obtain ⟨d0, d1, d2⟩ := hcs k t ht
        obtain ⟨p, q, s⟩ := t
        have c0 := (HB.out.cell (p := ⟨ib, off + k * 3, none⟩) hib).trans d0
        have c1 := (HB.out.cell (p := ⟨ib, off + k * 3 + 1, none⟩) hib).trans d1
        have c2' := (HB.out.cell (p := ⟨ib, off + k * 3 + 2, none⟩) hib).trans d2
        have HTS : Hid (s < 18446744073709551616) := Lib.hid hts
        clear hts hcs d0 d1 d2 ht
        have q0 : (0 : Int) ≤ (k : Int) := by omega
        have q1 : (k : Int) < (n : Int) := by omega
        have q2 : (k : Int) < 12 := by omega
        go_wp2_with fail
        refine (elem_any p q s _ HTS.out).mono ?_
        rintro e w1 ⟨rfl, hb1⟩
        have HB1 := Lib.hid (HB.out.trans (hb1.mono HB.out.size))
        have HG1 := Lib.hid (HG.out.below hb1)
        have hsz1 := HB1.out.size
        obtain ⟨x, hx⟩ : ∃ x, x = elm p q s := ⟨_, rfl⟩
        rw [← hx]
        have HX := Lib.hid (show 1 ≤ x ∧ x ≤ 1152921504606846976 by rw [hx]; exact elm_el p q s)
        clear hx hb1 HB HG c0 c1 c2'
        obtain ⟨At, ct, e3, hpt⟩ := HG1.out.t.list rfl
        subst e3
        have hhas := has_any Lt At Lt.length ct x w1 hpt (by have := HN.out.lt; omega)
        obtain ⟨r, hr⟩ : ∃ r : Bool, r = decide (x ∈ Lt) := ⟨_, rfl⟩
        rw [← hr] at hhas
        have HH := Lib.hid hhas
        have HR := Lib.hid hr
        clear hhas hr hpt
        go_wp2_with fail
        refine HH.out.mono ?_
        rintro e w2 ⟨rfl, rfl⟩
        cases r with
        | true =>
          go_wp2
          go_roundw
          case rel => exact ⟨k + 1, La, Lb, Lt, by go_num, h12, HN.out.skip, HG1.out, HB1.out⟩
          case measure => simp [intOf]; omega
        | false =>
          have hxt : x ∉ Lt := of_decide_eq_false HR.out.symm
          have HM := Lib.hid (HN.out.all hxt HX.out)
          have HNA := Lib.hid (fun h => hxt (HN.out.sa x h) : x ∉ La)
          have HNB := Lib.hid (fun h => hxt (HN.out.sb x h) : x ∉ Lb)
          have HLT := Lib.hid (show Lt.length + 1 ≤ 10000000 by have := HN.out.lt; omega)
          have HLA := Lib.hid (show La.length + 1 ≤ 10000000 by have := HN.out.la; omega)
          have HLB := Lib.hid (show Lb.length + 1 ≤ 10000000 by have := HN.out.lb; omega)
          clear hxt HH HR
          by_cases hq : k < n2
          · obtain ⟨zl, hz⟩ : ∃ z, lk[k]? = some z := ⟨lk[k]'(by have := HL.out.1; omega), List.getElem?_eq_getElem _⟩
            have hzb := HL.out.2.2.1 zl (List.mem_of_getElem? hz)
            obtain ⟨lb, loff, rfl, hlb, hlc⟩ := HL.out.2.2.2 (by rw [ints_len, ← HL.out.1]; omega)
            have hlc2 := hlc k (.int .i64 zl) (by unfold ints; rw [List.getElem?_map, hz]; rfl)
            have HLC := Lib.hid hlc2
            have HZB := Lib.hid hzb
            have q3 : (k : Int) < (n2 : Int) := by omega
            clear hlc hlc2 hz hzb
            go_wp2_with (at_builtin; refine wpList_pusht rfl _ _ rfl rfl w.heap.size x La Lb Lt _ _ _ HG1.out rfl rfl HLT.out hsz1 ?_; intro z2 w2 hz2 hb2; have HG2 := Lib.hid hz2; have HB2 := Lib.hid (HB1.out.trans hb2); have r2 := (HB2.out.cell (p := ⟨lb, loff + k, none⟩) hlb).trans HLC.out; have hsz2 := HB2.out.size; clear hz2 hb2)
            refine (around4 _ HZB.out.1 HZB.out.2).mono ?_
            rintro e w3 ⟨⟨r, hr, rfl⟩, rfl⟩
            clear r2
            rcases hr with rfl | rfl | rfl | rfl
            · have tok1 : True := trivial
              go_wp2_with (first
                | (at_builtin; have _t := tok1; refine wpList_pusha rfl _ _ rfl rfl w.heap.size x _ _ _ _ _ _ HG2.out rfl rfl HLA.out hsz2 ?_; intro z3 w3 hz3 hb3; have HG3 := Lib.hid hz3; have HB3 := Lib.hid (HB2.out.trans hb3); have hsz3 := HB3.out.size; have tok2 : True := trivial; clear tok1 hz3 hb3)
                | (at_builtin; have _t := tok2; refine wpList_pushb rfl _ _ rfl rfl w.heap.size x _ _ _ _ _ _ HG3.out rfl rfl HLB.out hsz3 ?_; intro z4 w4 hz4 hb4; have HG4 := Lib.hid hz4; have HB4 := Lib.hid (HB3.out.trans hb4); clear tok2 hz4 hb4))
              go_roundw
              case rel => exact ⟨k + 1, La ++ [x], Lb ++ [x], Lt ++ [x], by go_num, h12, (HM.out.one HNA.out).two HNB.out, HG4.out, HB4.out⟩
              case measure => simp [intOf]; omega
            · go_wp2_with (at_builtin; refine wpList_pushb rfl _ _ rfl rfl w.heap.size x _ _ _ _ _ _ HG2.out rfl rfl HLB.out hsz2 ?_; intro z4 w4 hz4 hb4; have HG4 := Lib.hid hz4; have HB4 := Lib.hid (HB2.out.trans hb4); clear hz4 hb4)
              go_roundw
              case rel => exact ⟨k + 1, La, Lb ++ [x], Lt ++ [x], by go_num, h12, HM.out.two HNB.out, HG4.out, HB4.out⟩
              case measure => simp [intOf]; omega
            · go_wp2_with (at_builtin; refine wpList_pusha rfl _ _ rfl rfl w.heap.size x _ _ _ _ _ _ HG2.out rfl rfl HLA.out hsz2 ?_; intro z4 w4 hz4 hb4; have HG4 := Lib.hid hz4; have HB4 := Lib.hid (HB2.out.trans hb4); clear hz4 hb4)
              go_roundw
              case rel => exact ⟨k + 1, La ++ [x], Lb, Lt ++ [x], by go_num, h12, HM.out.one HNA.out, HG4.out, HB4.out⟩
              case measure => simp [intOf]; omega
            · have tok1 : True := trivial
              go_wp2_with (first
                | (at_builtin; have _t := tok1; refine wpList_pusha rfl _ _ rfl rfl w.heap.size x _ _ _ _ _ _ HG2.out rfl rfl HLA.out hsz2 ?_; intro z3 w3 hz3 hb3; have HG3 := Lib.hid hz3; have HB3 := Lib.hid (HB2.out.trans hb3); have hsz3 := HB3.out.size; have tok2 : True := trivial; clear tok1 hz3 hb3)
                | (at_builtin; have _t := tok2; refine wpList_pushb rfl _ _ rfl rfl w.heap.size x _ _ _ _ _ _ HG3.out rfl rfl HLB.out hsz3 ?_; intro z4 w4 hz4 hb4; have HG4 := Lib.hid hz4; have HB4 := Lib.hid (HB3.out.trans hb4); clear tok2 hz4 hb4))
              go_roundw
              case rel => exact ⟨k + 1, La ++ [x], Lb ++ [x], Lt ++ [x], by go_num, h12, (HM.out.one HNA.out).two HNB.out, HG4.out, HB4.out⟩
              case measure => simp [intOf]; omega
          · have q3 : ¬ (k : Int) < (n2 : Int) := by omega
            have tok0 : True := trivial
            go_wp2_with (first
              | (at_builtin; have _t := tok0; refine wpList_pusht rfl _ _ rfl rfl w.heap.size x La Lb Lt _ _ _ HG1.out rfl rfl HLT.out hsz1 ?_; intro z2 w2 hz2 hb2; have HG2 := Lib.hid hz2; have HB2 := Lib.hid (HB1.out.trans hb2); have hsz2 := HB2.out.size; have tok1 : True := trivial; clear tok0 hz2 hb2)
              | (at_builtin; have _t := tok1; refine wpList_pusha rfl _ _ rfl rfl w.heap.size x _ _ _ _ _ _ HG2.out rfl rfl HLA.out hsz2 ?_; intro z3 w3 hz3 hb3; have HG3 := Lib.hid hz3; have HB3 := Lib.hid (HB2.out.trans hb3); have hsz3 := HB3.out.size; have tok2 : True := trivial; clear tok1 hz3 hb3)
              | (at_builtin; have _t := tok2; refine wpList_pushb rfl _ _ rfl rfl w.heap.size x _ _ _ _ _ _ HG3.out rfl rfl HLB.out hsz3 ?_; intro z4 w4 hz4 hb4; have HG4 := Lib.hid hz4; have HB4 := Lib.hid (HB3.out.trans hb4); clear tok2 hz4 hb4))
            go_roundw
            case rel => exact ⟨k + 1, La ++ [x], Lb ++ [x], Lt ++ [x], by go_num, h12, (HM.out.one HNA.out).two HNB.out, HG4.out, HB4.out⟩
            case measure => simp [intOf]; omega
      · have q2 : ¬ (k : Int) < 12 := by omega
        have q1 : (k : Int) < (n : Int) := by omega
        have A50 := Lib.hid (HG.out.a.nv3 (d := 12) HN.out.stA.el (Nat.le_trans HN.out.la hk12))
        have B50 := Lib.hid (HG.out.b.nv3 (d := 12) HN.out.stB.el (Nat.le_trans HN.out.lb hk12))
        have KB50 := HB
        obtain ⟨x, y, hx, hy, hxy⟩ := HN.out.df
        have HX := Lib.hid hx
        have HY := Lib.hid hy
        have HXY := Lib.hid (Nat.le_trans hxy hk12)
        clear hx hy hxy
        go_wp2_with fail
        refine (of14_v A50.out (by omega)).mono ?_
        rintro e w51 ⟨⟨A3, e3, rfl, hk3⟩, hb51⟩
        have A51 := Lib.hid (A50.out.below hb51)
        have B51 := Lib.hid (B50.out.below hb51)
        have KB51 := Lib.hid (KB50.out.trans (hb51.mono KB50.out.size))
        clear hb51
        have K51 := Lib.hid hk3
        clear hk3
        go_wp2_with fail
        refine (of14_v B51.out (by omega)).mono ?_
        rintro e w52 ⟨⟨A4, e4, rfl, hk4⟩, hb52⟩
        have A52 := Lib.hid (A51.out.below hb52)
        have B52 := Lib.hid (B51.out.below hb52)
        have K52 := Lib.hid (K51.out.below hb52)
        have KB52 := Lib.hid (KB51.out.trans (hb52.mono KB51.out.size))
        clear hb52
        have Q52 := Lib.hid hk4
        clear hk4
        go_wp2_with fail
        refine (diff_v K52.out Q52.out HN.out.stA HN.out.stB rfl rfl (by have := HN.out.la; omega) (by have := HN.out.lb; omega) (by omega) (Df.of HX.out HY.out) (by have := HXY.out; omega) (by have := HXY.out; omega) (by have := HXY.out; omega)).mono ?_
        rintro e w53 ⟨⟨z1, z2, rfl, hz1, hz2⟩, hb53⟩
        have A53 := Lib.hid (A52.out.below hb53)
        have B53 := Lib.hid (B52.out.below hb53)
        have KB53 := Lib.hid (KB52.out.trans (hb53.mono KB52.out.size))
        clear hb53
        have X53 := Lib.hid hz1
        have Y53 := Lib.hid hz2
        clear hz1 hz2
        go_wp2_with fail
        refine (only_v A53.out B53.out (by omega) (by omega) HN.out.na).mono ?_
        rintro e w54 ⟨⟨A5, L5, m5, c5, rfl, hm5, hl5, ho5⟩, hb54⟩
        have A54 := Lib.hid (A53.out.below hb54)
        have B54 := Lib.hid (B53.out.below hb54)
        have X54 := Lib.hid (X53.out.below hb54)
        have Y54 := Lib.hid (Y53.out.below hb54)
        have KB54 := Lib.hid (KB53.out.trans (hb54.mono KB53.out.size))
        clear hb54
        have P54 := Lib.hid hl5
        clear hl5
        have HO := Lib.hid (HX.out.uniq ho5)
        clear ho5 hm5
        go_wp2_with fail
        refine (same_v X54.out P54.out (by omega) (by omega) HO.out).mono ?_
        rintro e w55 ⟨rfl, hb55⟩
        have A55 := Lib.hid (A54.out.below hb55)
        have B55 := Lib.hid (B54.out.below hb55)
        have Y55 := Lib.hid (Y54.out.below hb55)
        have KB55 := Lib.hid (KB54.out.trans (hb55.mono KB54.out.size))
        clear hb55
        go_wp2_with fail
        refine (only_v B55.out A55.out (by omega) (by omega) HN.out.nb).mono ?_
        rintro e w56 ⟨⟨A6, L6, m6, c6, rfl, hm6, hl6, ho6⟩, hb56⟩
        have A56 := Lib.hid (A55.out.below hb56)
        have B56 := Lib.hid (B55.out.below hb56)
        have Y56 := Lib.hid (Y55.out.below hb56)
        have KB56 := Lib.hid (KB55.out.trans (hb56.mono KB55.out.size))
        clear hb56
        have R56 := Lib.hid hl6
        clear hl6
        have HO6 := Lib.hid (HY.out.uniq ho6)
        clear ho6 hm6
        go_wp2_with fail
        refine (same_v Y56.out R56.out (by omega) (by omega) HO6.out).mono ?_
        rintro e w57 ⟨rfl, hb57⟩
        have A57 := Lib.hid (A56.out.below hb57)
        have B57 := Lib.hid (B56.out.below hb57)
        have Y57 := Lib.hid (Y56.out.below hb57)
        have R57 := Lib.hid (R56.out.below hb57)
        have KB57 := Lib.hid (KB56.out.trans (hb57.mono KB56.out.size))
        clear hb57
        go_wp2_with fail
        refine (lives_any _).mono ?_
        rintro e w58 ⟨rfl, hb58⟩
        have A58 := Lib.hid (A57.out.below hb58)
        have B58 := Lib.hid (B57.out.below hb58)
        have Y58 := Lib.hid (Y57.out.below hb58)
        have R58 := Lib.hid (R57.out.below hb58)
        have KB58 := Lib.hid (KB57.out.trans (hb58.mono KB57.out.size))
        clear hb58
        go_wp2
        go_ret
        exact ⟨rfl, KB58.out⟩
    · have q1 : ¬ (k : Int) < (n : Int) := by omega
      have A50 := Lib.hid (HG.out.a.nv3 (d := 12) HN.out.stA.el (Nat.le_trans HN.out.la hk12))
      have B50 := Lib.hid (HG.out.b.nv3 (d := 12) HN.out.stB.el (Nat.le_trans HN.out.lb hk12))
      have KB50 := HB
      obtain ⟨x, y, hx, hy, hxy⟩ := HN.out.df
      have HX := Lib.hid hx
      have HY := Lib.hid hy
      have HXY := Lib.hid (Nat.le_trans hxy hk12)
      clear hx hy hxy
      go_wp2_with fail
      refine (of14_v A50.out (by omega)).mono ?_
      rintro e w51 ⟨⟨A3, e3, rfl, hk3⟩, hb51⟩
      have A51 := Lib.hid (A50.out.below hb51)
      have B51 := Lib.hid (B50.out.below hb51)
      have KB51 := Lib.hid (KB50.out.trans (hb51.mono KB50.out.size))
      clear hb51
      have K51 := Lib.hid hk3
      clear hk3
      go_wp2_with fail
      refine (of14_v B51.out (by omega)).mono ?_
      rintro e w52 ⟨⟨A4, e4, rfl, hk4⟩, hb52⟩
      have A52 := Lib.hid (A51.out.below hb52)
      have B52 := Lib.hid (B51.out.below hb52)
      have K52 := Lib.hid (K51.out.below hb52)
      have KB52 := Lib.hid (KB51.out.trans (hb52.mono KB51.out.size))
      clear hb52
      have Q52 := Lib.hid hk4
      clear hk4
      go_wp2_with fail
      refine (diff_v K52.out Q52.out HN.out.stA HN.out.stB rfl rfl (by have := HN.out.la; omega) (by have := HN.out.lb; omega) (by omega) (Df.of HX.out HY.out) (by have := HXY.out; omega) (by have := HXY.out; omega) (by have := HXY.out; omega)).mono ?_
      rintro e w53 ⟨⟨z1, z2, rfl, hz1, hz2⟩, hb53⟩
      have A53 := Lib.hid (A52.out.below hb53)
      have B53 := Lib.hid (B52.out.below hb53)
      have KB53 := Lib.hid (KB52.out.trans (hb53.mono KB52.out.size))
      clear hb53
      have X53 := Lib.hid hz1
      have Y53 := Lib.hid hz2
      clear hz1 hz2
      go_wp2_with fail
      refine (only_v A53.out B53.out (by omega) (by omega) HN.out.na).mono ?_
      rintro e w54 ⟨⟨A5, L5, m5, c5, rfl, hm5, hl5, ho5⟩, hb54⟩
      have A54 := Lib.hid (A53.out.below hb54)
      have B54 := Lib.hid (B53.out.below hb54)
      have X54 := Lib.hid (X53.out.below hb54)
      have Y54 := Lib.hid (Y53.out.below hb54)
      have KB54 := Lib.hid (KB53.out.trans (hb54.mono KB53.out.size))
      clear hb54
      have P54 := Lib.hid hl5
      clear hl5
      have HO := Lib.hid (HX.out.uniq ho5)
      clear ho5 hm5
      go_wp2_with fail
      refine (same_v X54.out P54.out (by omega) (by omega) HO.out).mono ?_
      rintro e w55 ⟨rfl, hb55⟩
      have A55 := Lib.hid (A54.out.below hb55)
      have B55 := Lib.hid (B54.out.below hb55)
      have Y55 := Lib.hid (Y54.out.below hb55)
      have KB55 := Lib.hid (KB54.out.trans (hb55.mono KB54.out.size))
      clear hb55
      go_wp2_with fail
      refine (only_v B55.out A55.out (by omega) (by omega) HN.out.nb).mono ?_
      rintro e w56 ⟨⟨A6, L6, m6, c6, rfl, hm6, hl6, ho6⟩, hb56⟩
      have A56 := Lib.hid (A55.out.below hb56)
      have B56 := Lib.hid (B55.out.below hb56)
      have Y56 := Lib.hid (Y55.out.below hb56)
      have KB56 := Lib.hid (KB55.out.trans (hb56.mono KB55.out.size))
      clear hb56
      have R56 := Lib.hid hl6
      clear hl6
      have HO6 := Lib.hid (HY.out.uniq ho6)
      clear ho6 hm6
      go_wp2_with fail
      refine (same_v Y56.out R56.out (by omega) (by omega) HO6.out).mono ?_
      rintro e w57 ⟨rfl, hb57⟩
      have A57 := Lib.hid (A56.out.below hb57)
      have B57 := Lib.hid (B56.out.below hb57)
      have Y57 := Lib.hid (Y56.out.below hb57)
      have R57 := Lib.hid (R56.out.below hb57)
      have KB57 := Lib.hid (KB56.out.trans (hb57.mono KB56.out.size))
      clear hb57
      go_wp2_with fail
      refine (lives_any _).mono ?_
      rintro e w58 ⟨rfl, hb58⟩
      have A58 := Lib.hid (A57.out.below hb58)
      have B58 := Lib.hid (B57.out.below hb58)
      have Y58 := Lib.hid (Y57.out.below hb58)
      have R58 := Lib.hid (R57.out.below hb58)
      have KB58 := Lib.hid (KB57.out.trans (hb58.mono KB57.out.size))
      clear hb58
      go_wp2
      go_ret
      exact ⟨rfl, KB58.out⟩

end Go.Proofs.Ytcbcmnbfflaicaa
