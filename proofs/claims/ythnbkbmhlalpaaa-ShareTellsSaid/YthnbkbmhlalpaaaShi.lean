/-
  Package share's through: the polynomial of the least degree that has all shares, or none; what was there is left as it was. Up to a thousand shares.
-/
import Derived.Test.YthnbkbmhlalpaaaShh
namespace Go.Proofs.Ythnbkbmhlalpaaa
open Go.RowKit Go.Maps
attribute [local go_sem ↓] Go.wp_at_zero Go.wp_at_succ

theorem Tk.apart {w : World} {b B : Nat} {S L : List Nat} {u : Value} (h : Tk w b S) (hg : Gb B w u L) : some b ≠ u.ownBlock := fun e => by
  obtain ⟨⟨es, clock, hb, _⟩, _⟩ := h
  obtain ⟨A, c, rfl, hrow⟩ := hg
  rcases hrow.2 with ⟨h2, _⟩ | ⟨g, cap, cur, h2, _, h4, _⟩
  · rw [h2] at e; simp [Value.ownBlock] at e
  · rw [h2] at e
    have e2 : b = g := by simpa [Value.ownBlock] using e
    subst e2
    rw [hb] at h4
    cases h4
theorem Gb.own_lt {B : Nat} {w : World} {u : Value} {L : List Nat} (h : Gb B w u L) : ∀ k, some k = u.ownBlock → B ≤ k ∧ k < w.heap.size := fun k hk => by
  obtain ⟨A, c, e, hrow⟩ := h
  exact own_ge hrow hk
theorem Gb.keptRow {B b : Nat} {w w' : World} {o : Value} {L : List Nat} (h : Gb B w o L) (hg : w.grownBy w' (some b)) (hne : some b ≠ o.ownBlock) : Gb B w' o L := by
  obtain ⟨A, c, e, h1⟩ := h
  exact ⟨A, c, e, own_kept h1 fun k hk hl => hg.block k hl fun e2 => hne (by rw [← e2]; exact hk)⟩
/-- All that stands in a round's last statement: two lists, the set of places, two numbers in variables. -/
structure Rp2 (b P1 P2 m v : Nat) (S : List Nat) (w0 W : World) (u1 : Value) (L1 : List Nat) (u2 : Value) (L2 : List Nat) : Prop where
  g1 : Gb w0.heap.size W u1 L1
  g2 : Gb w0.heap.size W u2 L2
  ap : Apart u1 u2
  tk : Tk W b S
  bw : Below w0.heap.size w0 W
  c1 : W.cell? ⟨P2, 0, none⟩ = some (.int .u64 (m : Int))
  c2 : W.cell? ⟨P1, 1, none⟩ = some (.int .u64 (v : Int))
  f1 : ∀ k, some k = u1.ownBlock → k ≠ P1 ∧ k ≠ P2
  f2 : ∀ k, some k = u2.ownBlock → k ≠ P1 ∧ k ≠ P2
  l1 : P1 < W.heap.size
  l2 : P2 < W.heap.size
section
variable {b P1 P2 m v : Nat} {S : List Nat} {w0 W : World} {u1 u2 : Value} {L1 L2 : List Nat}
theorem Rp2.alloc (h : Rp2 b P1 P2 m v S w0 W u1 L1 u2 L2) (o : Obj) : Rp2 b P1 P2 m v S w0 (W.alloc o) u1 L1 u2 L2 :=
  ⟨h.g1.new o, h.g2.new o, h.ap, h.tk.new o, h.bw.alloc h.bw.size o, cell_alloc_l o h.c1, cell_alloc_l o h.c2, h.f1, h.f2, by rw [World.size_alloc]; exact Nat.lt_succ_of_lt h.l1, by rw [World.size_alloc]; exact Nat.lt_succ_of_lt h.l2⟩
theorem Rp2.drew (h : Rp2 b P1 P2 m v S w0 W u1 L1 u2 L2) : Rp2 b P1 P2 m v S w0 W.drew u1 L1 u2 L2 := ⟨h.g1, h.g2, h.ap, h.tk, below_to_drew h.bw, h.c1, h.c2, h.f1, h.f2, h.l1, h.l2⟩
theorem Rp2.swap (h : Rp2 b P1 P2 m v S w0 W u1 L1 u2 L2) : Rp2 b P1 P2 m v S w0 W u2 L2 u1 L1 := ⟨h.g2, h.g1, h.ap.symm, h.tk, h.bw, h.c1, h.c2, h.f2, h.f1, h.l1, h.l2⟩
theorem Rp2.push {w1 : World} {z : Value} {L : List Nat} (h : Rp2 b P1 P2 m v S w0 W u1 L1 u2 L2) (hz : Gb w0.heap.size w1 z L) (hg : W.grownBy w1 u1.ownBlock) (hl : Lies W u1 z) : Rp2 b P1 P2 m v S w0 w1 z L u2 L2 where
  g1 := hz
  g2 := h.g2.grown hg h.ap.symm
  ap := h.ap.lies hl fun k hk => (h.g2.own_lt k hk).2
  tk := h.tk.kept hg (h.tk.apart h.g1)
  bw := h.bw.grown hg h.bw.size fun j e => (h.g1.own_lt j e.symm).1
  c1 := hg.cell h.c1 fun e => (h.f1 _ e).2 rfl
  c2 := hg.cell h.c2 fun e => (h.f1 _ e).1 rfl
  f1 := fun k hk => by
    rcases hl k hk with h1 | h1
    · exact h.f1 k h1
    · have := h.l1; have := h.l2; constructor <;> omega
  f2 := h.f2
  l1 := Nat.lt_of_lt_of_le h.l1 hg.size
  l2 := Nat.lt_of_lt_of_le h.l2 hg.size
/-- A number that waits in a block of its own. -/
structure Sc (W : World) (g x : Nat) (u1 u2 : Value) : Prop where
  c : W.cell? ⟨g, 0, none⟩ = some (.int .u64 (x : Int))
  lt : g < W.heap.size
  n1 : some g ≠ u1.ownBlock
  n2 : some g ≠ u2.ownBlock
theorem Sc.fresh (h : Rp2 b P1 P2 m v S w0 W u1 L1 u2 L2) (x : Nat) : Sc (W.alloc (.cells #[.int .u64 (x : Int)] 22)) W.heap.size x u1 u2 :=
  ⟨(cell_new_l W _ _).1, by rw [World.size_alloc]; exact Nat.lt_succ_self _, fun e => Nat.lt_irrefl _ (h.g1.own_lt _ e).2, fun e => Nat.lt_irrefl _ (h.g2.own_lt _ e).2⟩
theorem Sc.alloc {g x : Nat} (h : Sc W g x u1 u2) (o : Obj) : Sc (W.alloc o) g x u1 u2 := ⟨cell_alloc_l o h.c, by rw [World.size_alloc]; exact Nat.lt_succ_of_lt h.lt, h.n1, h.n2⟩
theorem Sc.drew {g x : Nat} (h : Sc W g x u1 u2) : Sc W.drew g x u1 u2 := ⟨h.c, h.lt, h.n1, h.n2⟩
theorem Sc.swap {g x : Nat} (h : Sc W g x u1 u2) : Sc W g x u2 u1 := ⟨h.c, h.lt, h.n2, h.n1⟩
theorem Sc.push {w1 : World} {z : Value} {g x : Nat} (h : Sc W g x u1 u2) (hg : W.grownBy w1 u1.ownBlock) (hl : Lies W u1 z) : Sc w1 g x z u2 :=
  ⟨hg.cell h.c h.n1, Nat.lt_of_lt_of_le h.lt hg.size, fun e => by
    rcases hl g e with h1 | h1
    · exact h.n1 h1
    · have := h.lt; omega, h.n2⟩
theorem step_push {g x : Nat} {ops : Array Oper} {o : Oper} {a : Act} {K : Act → World → Prop} {Q : Exit → Act → World → Prop} {E : Prop} (hgd : o.guard = none) (s y : Operand)
    (ho : o.op = .call { callee := .builtin .append, args := #[s, y], argTypes := #[23, 23] }) (h : Rp2 b P1 P2 m v S w0 W u1 L1 u2 L2) (hS : Sc W g x u1 u2) (hs : a.eval s = u1) (hx : a.eval y = .slice (some ⟨g, 0, none⟩) 1 1) (hk : L1.length ≤ 1000000)
    (hK : ∀ z w1, Rp2 b P1 P2 m v S w0 w1 z (L1 ++ [x]) u2 L2 → (∀ g' y', Sc W g' y' u1 u2 → Sc w1 g' y' z u2) → K (a.put o.dst z) w1) :
    if Region.wanted o (yielded ops a.tmps) = true then Oper.wp Try.prog o a W K Q else E := by
  obtain ⟨i0, hi, hz0, hz1, hz2⟩ := info_parts info_u64
  obtain ⟨A, c, e, hrow⟩ := h.g1
  subst e
  refine step_append_lies W hgd s y 23 ho w0.heap.size 22 i0 (.int .u64 0) 1 8 Try.underlying23 hi hz0 hz1 hz2 rfl (by decide) _ _ _ hs hrow ⟨g, 0, none⟩ 1 1 [.int .u64 (x : Int)] hx rfl (fun j u hu => ?_) (by simp [Value.oneCell']) (by omega) (by unfold maxLen; omega) (by omega) h.bw.size _ rfl ?_
  · match j, hu with
    | 0, hu => injection hu with hu; subst hu; rw [Addr.add_lit]; exact hS.c
  · intro g' cap w1 hown hgrow hat hlt
    have hl : Lies W (.slice A L1.length c) (.slice (some ⟨g', 0, none⟩) (L1.length + 1) cap) := fun k hk1 => by
      have e : k = g' := by injection hk1
      subst e
      rcases hat with h1 | h1
      · exact .inl h1.symm
      · right; rw [h1]; exact Nat.le_refl _
    refine hK _ w1 (h.push ⟨_, cap, by rw [List.length_append]; rfl, by rw [u64s_snoc, List.length_append]; exact hown⟩ hgrow hl) fun g2 y2 h2 => h2.push hgrow hl
end

namespace Sr
theorem bad_in {l : List Shr} {k : Nat} {s : Shr} (hk : l[k]? = some s) (h : Fld.num s.a ∈ 0 :: (nums l).take k) : ¬ Good l := fun hg => by
  rcases List.mem_cons.1 h with h1 | h1
  · exact bad_zero hk h1 hg
  · have h2 := hg.2.2.sublist (List.take_sublist (k + 1) (nums l))
    rw [nums_take hk, List.nodup_append] at h2
    exact h2.2.2 _ h1 _ (List.mem_singleton.2 rfl) rfl
theorem fine_in {l : List Shr} {k : Nat} {s : Shr} (hf : Fine l k) (hk : l[k]? = some s) (h : Fld.num s.a ∉ 0 :: (nums l).take k) : Fine l (k + 1) :=
  hf.next hk (fun e => h (List.mem_cons.2 (.inl e))) fun hm => h (List.mem_cons.2 (.inr hm))
end Sr
/-- What through tells. -/
def ThT (l : List Shr) (e : Ending) (w' : World) : Prop := (Sr.Good l → ∃ z, e = .returned (.tuple #[z, .int .i64 0]) ∧ Tv w' z (Sr.pol l) 1000) ∧ (¬ Sr.Good l → e = .returned (.tuple #[.slice none 0 0, .int .i64 29]))

set_option maxRecDepth 100000 in
set_option maxHeartbeats 8000000 in
theorem through_any (A : Option Addr) (n c : Nat) (l : List Shr) (w : World) (hA : St w A n c l) (hn : n ≤ 1000) :
    Calls Try.prog 28 #[.slice A n c] w fun e w' => ThT l e w' ∧ Below w.heap.size w w' := by
  have HL := Lib.hid hA.len
  have HA := Lib.hid hA
  by_cases hn0 : n = 0
  · subst hn0
    have hl : l = [] := List.eq_nil_of_length_eq_zero hA.len.symm
    have HB := Lib.hid (show ¬ Sr.Good l from fun h => h.1 hl)
    clear hA hl HA
    go_enter Try.func28, Try.ntmps28
    go_wp2
    go_ret2
    exact ⟨⟨fun h => absurd h HB.out, fun _ => rfl⟩, Below.refl _ _⟩
  · have hd : ((n : Int) == 0) = false := by rw [beq_eq_false_iff_ne]; omega
    have hmm := @run_makeMap Try.prog
    have HTM := Lib.hid (Tk.made w)
    have hkm : Below w.heap.size w (w.alloc (.map #[] 0)) := (Below.refl _ w).alloc (Nat.le_refl _) _
    have HKM := Lib.hid hkm
    clear hA hkm
    go_enter Try.func28, Try.ntmps28
    go_wp2_with (refine wpList_store _ rfl _ _ _ (.inr rfl) w.heap.size 0 [] HTM.out rfl rfl rfl (by omega) (by simp) ?_; intro w1 hT1 hgr1; have HT1 := Lib.hid hT1; have HB1 := Lib.hid (HKM.out.grown hgr1 HKM.out.size (fun j e => by injection e with e; omega)); clear hT1 hgr1)
    have hl0 : Hid (0 < n) := Lib.hid (by omega)
    go_wp2
    go_loopw [5, 6, 18] (fun o o2 i wr => ∃ k : Nat, i = .int .i64 (k : Int) ∧ k ≤ n ∧ Sr.Fine l k ∧ Gb w.heap.size wr o ((Sr.nums l).take k) ∧ Gb w.heap.size wr o2 (Sr.vs (l.take k)) ∧ Apart o o2 ∧ Tk wr w.heap.size (0 :: (Sr.nums l).take k) ∧ Below w.heap.size w wr) (fun _ _ i _ => n - (intOf i).toNat)
    case atStart => exact ⟨0, rfl, Nat.zero_le _, Sr.Fine.zero l, Gb.nil _ _, Gb.nil _ _, Apart.none_left _, HT1.out, HB1.out⟩
    case round =>
      obtain ⟨k, rfl, hk, hfi, hg1, hg2, hap, htk, hb⟩ := hrel
      have HF := Lib.hid hfi
      have HG1 := Lib.hid hg1
      have HG2 := Lib.hid hg2
      have HAP := Lib.hid hap
      have HTK := Lib.hid htk
      have HB := Lib.hid hb
      have hsz := hb.size
      clear hfi hg1 hg2 hap htk hb hmm
      by_cases hlt : k < n
      · obtain ⟨s, hs⟩ : ∃ s, l[k]? = some s := ⟨l[k]'(by have := HL.out; omega), List.getElem?_eq_getElem _⟩
        obtain ⟨b1, o1, rfl, hb1, -, c1, c2⟩ := HA.out.spot hs
        have hsm := HA.out.small s (List.mem_of_getElem? hs)
        have hvs := Sr.vs_next hs
        have hns := Sr.nums_take hs
        have hbad := fun h => Sr.bad_in hs h
        have hfin := fun h => Sr.fine_in HF.out hs h
        obtain ⟨a, v⟩ := s
        have ha : a < 18446744073709551616 := hsm.1
        have hv : v < 18446744073709551616 := hsm.2
        have r1 := (HB.out.cell (p := ⟨b1, o1 + k * 2, none⟩) hb1).trans c1
        have r2 := (HB.out.cell (p := ⟨b1, o1 + k * 2 + 1, none⟩) hb1).trans c2
        have HPL := Lib.hid (fun W => place_any a v W ha)
        have hml := Fld.num_lt a
        obtain ⟨m, hm⟩ : ∃ m, m = Fld.num a := ⟨_, rfl⟩
        have hns' : (Sr.nums l).take (k + 1) = (Sr.nums l).take k ++ [m] := by rw [hm]; exact hns
        have hbad' : m ∈ 0 :: (Sr.nums l).take k → ¬ Sr.Good l := fun h => hbad (by rw [hm] at h; exact h)
        have hfin' : m ∉ 0 :: (Sr.nums l).take k → Sr.Fine l (k + 1) := fun h => hfin (by rw [hm] at h; exact h)
        rw [← hm] at HPL hml
        have hvs' : Sr.vs (l.take (k + 1)) = Sr.vs (l.take k) ++ [v] := hvs
        have HVS := Lib.hid hvs'
        have HNS := Lib.hid hns'
        have HBAD := Lib.hid hbad'
        have HFIN := Lib.hid hfin'
        have q1 : (k : Int) < (n : Int) := by omega
        have hm64 : m < 18446744073709551616 := by omega
        clear hs c1 c2 hsm hvs hns hbad hfin hm hns' hbad' hfin' hvs'
        go_wp2_with fail
        have hv1 := (two_cells (blk_new wr 33 #[.int .u64 (a : Int), .int .u64 (v : Int)])).2
        have hT1 := HTK.out.new (.cells #[.int .u64 (a : Int), .int .u64 (v : Int)] 33)
        have hG1 := HG1.out.new (.cells #[.int .u64 (a : Int), .int .u64 (v : Int)] 33)
        have hG2 := HG2.out.new (.cells #[.int .u64 (a : Int), .int .u64 (v : Int)] 33)
        have hB1 := HB.out.alloc hsz (.cells #[.int .u64 (a : Int), .int .u64 (v : Int)] 33)
        have hP1 : wr.heap.size < (wr.alloc (.cells #[.int .u64 (a : Int), .int .u64 (v : Int)] 33)).heap.size := by simp
        have hn1 : ∀ j, (∃ u L, Gb w.heap.size wr u L ∧ some j = u.ownBlock) → j < wr.heap.size := fun j ⟨u, L, h1, h2⟩ => (h1.own_lt j h2).2
        refine (HPL.out _).mono ?_
        rintro e w2 ⟨rfl, hb2⟩
        have HV2 := Lib.hid ((hb2.cell (p := ⟨wr.heap.size, 1, none⟩) hP1).trans hv1)
        have HT2 := Lib.hid (hT1.below hb2)
        have HG12 := Lib.hid (hG1.below hb2)
        have HG22 := Lib.hid (hG2.below hb2)
        have HB2 := Lib.hid (hB1.trans (hb2.mono hB1.size))
        have hP12 : wr.heap.size < w2.heap.size := Nat.lt_of_lt_of_le hP1 hb2.size
        have HN1 := Lib.hid hn1
        clear hv1 hT1 hG1 hG2 hB1 hP1 hb2 hn1 r1 r2 HPL
        obtain ⟨q, hq⟩ : ∃ q, q = decide (m ∈ 0 :: (Sr.nums l).take k) := ⟨_, rfl⟩
        have HQ := Lib.hid hq
        have hT3 := HT2.out.new (.cells #[.int .u64 (m : Int)] 57)
        have HT3 := Lib.hid hT3
        have hq2 := Lib.hid (show q = decide (m ∈ 0 :: (Sr.nums l).take k) from hq)
        clear hq hT3
        cases q with
        | true =>
          have hbd : ¬ Sr.Good l := HBAD.out (by simpa using HQ.out.symm)
          have HBD := Lib.hid hbd
          clear hbd
          go_wp2_with (at_lookup; refine wpList_look _ rfl _ _ rfl w.heap.size m _ true HT3.out rfl rfl hm64 hq2.out ?_)
          go_ret2
          exact ⟨⟨fun h => absurd h HBD.out, fun _ => rfl⟩, HB2.out.alloc HB2.out.size _⟩
        | false =>
          have hno : m ∉ 0 :: (Sr.nums l).take k := by simpa using HQ.out.symm
          have HNO := Lib.hid hno
          have HFN := Lib.hid (HFIN.out hno)
          have tok1 : True := trivial
          clear hno
          go_wp2_with (first
            | (at_lookup; refine wpList_look _ rfl _ _ rfl w.heap.size m _ false HT3.out rfl rfl hm64 hq2.out ?_)
            | (at_mapUpdate; have _t := tok1; refine wpList_store _ rfl _ _ _ (.inl rfl) w.heap.size m _ HT3.out rfl rfl rfl hm64 HNO.out ?_; intro w4 hT4 hgr4; clear tok1))
          have hlt4 := hgr4.size
          have hsz3 : (w2.alloc (.cells #[.int .u64 (m : Int)] 57)).heap.size = w2.heap.size + 1 := by simp
          have hc3 := (cell_new_l w2 (.int .u64 (m : Int)) 57).1
          have hw0 : w.heap.size < wr.heap.size := HTK.out.lt
          have hbw4 : Below w.heap.size w w4 := (HB2.out.alloc HB2.out.size (.cells #[.int .u64 (m : Int)] 57)).grown hgr4 (by have := HB2.out.size; omega) fun j e => by injection e with e; omega
          have P4 : Rp2 w.heap.size wr.heap.size w2.heap.size m v (0 :: (Sr.nums l).take k ++ [m]) w w4 _ ((Sr.nums l).take k) _ (Sr.vs (l.take k)) := {
            g1 := (HG12.out.new (.cells #[.int .u64 (m : Int)] 57)).keptRow hgr4 (HT3.out.apart (HG12.out.new _))
            g2 := (HG22.out.new (.cells #[.int .u64 (m : Int)] 57)).keptRow hgr4 (HT3.out.apart (HG22.out.new _))
            ap := HAP.out
            tk := hT4
            bw := hbw4
            c1 := hgr4.cell hc3 fun e => absurd (Option.some.inj e) (by show w2.heap.size ≠ w.heap.size; omega)
            c2 := hgr4.cell (cell_alloc_l _ HV2.out) fun e => absurd (Option.some.inj e) (by show wr.heap.size ≠ w.heap.size; omega)
            f1 := fun j hj => by have := (HG1.out.own_lt j hj).2; constructor <;> omega
            f2 := fun j hj => by have := (HG2.out.own_lt j hj).2; constructor <;> omega
            l1 := by omega
            l2 := by omega }
          have D4 := Lib.hid P4
          obtain ⟨P1, hP1⟩ : ∃ P1, P1 = wr.heap.size := ⟨_, rfl⟩
          obtain ⟨P2, hP2⟩ : ∃ P2, P2 = w2.heap.size := ⟨_, rfl⟩
          rw [← hP1, ← hP2] at D4
          rw [← hP1, ← hP2]
          clear hP1 hP2 P4 hbw4 hgr4 hT4 hlt4 hsz3 hc3 hw0 hP12 HV2 HT2 HG12 HG22 HB2 HN1 HT3 hq2 HQ HNO HG1 HG2 HAP HTK HB hsz
          have hlx : ((Sr.nums l).take k).length ≤ 1000000 := by rw [List.length_take, Sr.nums_len]; omega
          have hly : (Sr.vs (l.take k)).length ≤ 1000000 := by rw [Sr.vs_len, List.length_take]; omega
          have LX := Lib.hid hlx
          have LY := Lib.hid hly
          clear hlx hly
          have k0 := And.intro D4.out.c1 D4.out.c2
          have k0d := And.intro D4.out.drew.c1 D4.out.drew.c2
          have A1 := Lib.hid (D4.out.alloc (.cells #[.int .u64 (m : Int)] 22)).drew
          have A2 := Lib.hid (D4.out.alloc (.cells #[.int .u64 (v : Int)] 22)).drew
          have A12 := Lib.hid ((D4.out.alloc (.cells #[.int .u64 (m : Int)] 22)).alloc (.cells #[.int .u64 (v : Int)] 22)).drew
          have A21 := Lib.hid ((D4.out.alloc (.cells #[.int .u64 (v : Int)] 22)).alloc (.cells #[.int .u64 (m : Int)] 22)).drew
          have s1 := Lib.hid (Sc.fresh D4.out m).drew
          have s2 := Lib.hid (Sc.fresh D4.out v).drew
          have s12 := Lib.hid ((Sc.fresh D4.out m).alloc (.cells #[.int .u64 (v : Int)] 22)).drew
          have s12' := Lib.hid (by have h := (Sc.fresh (D4.out.alloc (.cells #[.int .u64 (m : Int)] 22)) v).drew; rw [World.size_alloc] at h; exact h)
          have s21 := Lib.hid ((Sc.fresh D4.out v).alloc (.cells #[.int .u64 (m : Int)] 22)).drew
          have s21' := Lib.hid (by have h := (Sc.fresh (D4.out.alloc (.cells #[.int .u64 (v : Int)] 22)) m).drew; rw [World.size_alloc] at h; exact h)
          have k1 := And.intro A1.out.c1 A1.out.c2
          have k2 := And.intro A2.out.c1 A2.out.c2
          have k12 := And.intro A12.out.c1 A12.out.c2
          have k21 := And.intro A21.out.c1 A21.out.c2
          go_region_held3 (fun w' : World => w'.cell? ⟨P2, 0, none⟩ = some (.int .u64 (m : Int)) ∧ w'.cell? ⟨P1, 1, none⟩ = some (.int .u64 (v : Int)))
            ((first | with_reducible exact k0 | with_reducible exact k0d | with_reducible exact k1 | with_reducible exact k2 | with_reducible exact k12 | with_reducible exact k21 | with_reducible exact k5 | with_reducible exact k6 | with_reducible exact k7))
            (first
              | (refine step_push rfl (.tmp 29) (.tmp 32) rfl A1.out s1.out rfl rfl LX.out ?_; intro z5 w5 P5 _; have P6 := Lib.hid (P5.alloc (.cells #[.int .u64 (v : Int)] 22)); have t6 := Lib.hid (Sc.fresh P5 v); have k5 := And.intro P5.c1 P5.c2; have k6 := And.intro P6.out.c1 P6.out.c2; clear P5)
              | (refine step_push rfl (.tmp 29) (.tmp 32) rfl A12.out s12.out rfl rfl LX.out ?_; intro z5 w5 P5 F5; have P6 := Lib.hid P5; have t6 := Lib.hid (F5 _ _ s12'.out); have k5 := And.intro P5.c1 P5.c2; clear P5 F5)
              | (refine step_push rfl (.tmp 29) (.tmp 32) rfl A21.out s21'.out rfl rfl LX.out ?_; intro z5 w5 P5 F5; have P6 := Lib.hid P5; have t6 := Lib.hid (F5 _ _ s21.out); have k5 := And.intro P5.c1 P5.c2; clear P5 F5)
              | (refine step_push rfl (.tmp 29) (.tmp 32) rfl Q6.out.swap r6.out.swap rfl rfl LX.out ?_; intro z9 w9 P9 _; have PF := Lib.hid P9; have k7 := And.intro P9.c1 P9.c2; clear P9)
              | (refine step_push rfl (.tmp 34) (.tmp 37) rfl A2.out.swap s2.out.swap rfl rfl LY.out ?_; intro z5 w5 P5 _; have Q6 := Lib.hid (P5.alloc (.cells #[.int .u64 (m : Int)] 22)); have r6 := Lib.hid (Sc.fresh P5 m); have k5 := And.intro P5.c1 P5.c2; have k6 := And.intro Q6.out.c1 Q6.out.c2; clear P5)
              | (refine step_push rfl (.tmp 34) (.tmp 37) rfl A12.out.swap s12'.out.swap rfl rfl LY.out ?_; intro z5 w5 P5 F5; have Q6 := Lib.hid P5; have r6 := Lib.hid (F5 _ _ s12.out.swap); have k5 := And.intro P5.c1 P5.c2; clear P5 F5)
              | (refine step_push rfl (.tmp 34) (.tmp 37) rfl A21.out.swap s21.out.swap rfl rfl LY.out ?_; intro z5 w5 P5 F5; have Q6 := Lib.hid P5; have r6 := Lib.hid (F5 _ _ s21'.out.swap); have k5 := And.intro P5.c1 P5.c2; clear P5 F5)
              | (refine step_push rfl (.tmp 34) (.tmp 37) rfl P6.out.swap t6.out.swap rfl rfl LY.out ?_; intro z9 w9 P9 _; have PF := Lib.hid P9.swap; have k7 := And.intro P9.c1 P9.c2; clear P9))
          all_goals go_wp2
          all_goals go_roundw
          all_goals first
            | exact ⟨k + 1, by go_num, hlt, HFN.out, by rw [HNS.out]; exact PF.out.g1, by rw [HVS.out]; exact PF.out.g2, PF.out.ap, by rw [HNS.out]; exact PF.out.tk, PF.out.bw⟩
            | (simp [intOf]; omega)
      · obtain rfl : k = n := by omega
        have HGD := Lib.hid (HF.out.good HL.out (by omega))
        have htk : l.take k = l := List.take_of_length_le (by rw [HL.out]; exact Nat.le_refl _)
        have htn : (Sr.nums l).take k = Sr.nums l := List.take_of_length_le (by rw [Sr.nums_len, HL.out]; exact Nat.le_refl _)
        have hg1 := HG1.out
        have hg2 := HG2.out
        rw [htn] at hg1
        rw [htk] at hg2
        have N1 := Lib.hid (hg1.nv (d := 1000) (fun y hy => by
          obtain ⟨s, hs, rfl⟩ := List.mem_map.1 hy
          have := Fld.num_lt s.a
          omega) (by rw [Sr.nums_len, ← HL.out]; exact hn))
        have N2 := Lib.hid (hg2.nv (d := 1000) HA.out.small.vs (by rw [Sr.vs_len, ← HL.out]; exact hn))
        clear htk htn hg1 hg2 HG1 HG2 HAP HTK hsz
        go_wp2_with fail
        refine (from_v N1.out N2.out (by omega) (by omega)).mono ?_
        rintro e w2 ⟨⟨zf, rfl, hz⟩, hb2⟩
        rw [Sr.pol_nums] at hz
        have HZ := Lib.hid hz
        have HB2 := Lib.hid (HB.out.trans (hb2.mono HB.out.size))
        clear hz hb2 N1 N2 HB
        go_wp2
        go_ret2
        exact ⟨⟨fun _ => ⟨_, rfl, HZ.out⟩, fun h => absurd HGD.out h⟩, HB2.out⟩

end Go.Proofs.Ythnbkbmhlalpaaa
