/-
  PolyLagrange: From has the values that were told, and a lesser degree than there are; a polynomial's own values lead back to it.
-/
import Derived.Test.YtalljoneflepiaaLwf
namespace Go.Proofs.Ytalljoneflepiaa
open Go.RowKit

/-! ### two lists that grow beside each other -/
/-- A list of its own, and its block. -/
def Gb (B : Nat) (w : World) (o : Value) (L : List Nat) : Prop := ∃ A c, o = .slice A L.length c ∧ w.ownsRow B 23 1 o L.length (u64s L)
theorem Gb.gl {B : Nat} {w : World} {o : Value} {L : List Nat} (h : Gb B w o L) : Gl B w o L := by
  obtain ⟨A, c, rfl, h1⟩ := h
  exact ⟨A, c, rfl, h1⟩
theorem Gb.nil (B : Nat) (w : World) : Gb B w (.slice none 0 0) [] := ⟨none, 0, rfl, World.ownsRow_nil w B 23 1⟩
theorem Gb.below {B : Nat} {w w' : World} {o : Value} {L : List Nat} (h : Gb B w o L) (hb : Below w.heap.size w w') : Gb B w' o L := by
  obtain ⟨A, c, e, h1⟩ := h
  exact ⟨A, c, e, own_below h1 hb⟩
/-- They share no memory. -/
def Apart (a b : Value) : Prop := ∀ k, some k = a.ownBlock → some k ≠ b.ownBlock
theorem Apart.symm {a b : Value} (h : Apart a b) : Apart b a := fun k h1 h2 => h k h2 h1
theorem Gb.grown {B : Nat} {w w' : World} {o u : Value} {L : List Nat} (h : Gb B w o L) (hg : w.grownBy w' u.ownBlock) (ha : Apart o u) : Gb B w' o L := by
  obtain ⟨A, c, e, h1⟩ := h
  exact ⟨A, c, e, own_kept h1 fun k hk hl => hg.block k hl (ha k hk)⟩
theorem push_own {w : World} {lo : Nat} {v : Value} {old : List Nat} (x : Nat) (h : Gb lo w v old) (hlo : lo ≤ w.heap.size) (hlen : old.length + 1 ≤ 10000000) :
    ∃ g c w1, (Builtin.append_ #[22, 22] 22 #[v, .slice (some ⟨w.heap.size, 0, none⟩) 1 1]).run Try.prog (w.alloc (.cells #[.int .u64 (x : Int)] 23)) = .ok (.slice (some ⟨g, 0, none⟩) (old.length + 1) c) w1 ∧
      w1.ownsRow lo 23 1 (.slice (some ⟨g, 0, none⟩) (old.length + 1) c) (old.length + 1) (u64s (old ++ [x])) ∧ (w.alloc (.cells #[.int .u64 (x : Int)] 23)).grownBy w1 v.ownBlock ∧ (some g = v.ownBlock ∨ w.heap.size < g) := by
  obtain ⟨A0, c0, e0, h⟩ := h
  obtain ⟨i0, hi, hz0, hz1, hz2⟩ := info_parts info_u64
  have hown : (w.alloc (.cells #[.int .u64 (x : Int)] 23)).ownsRow lo 23 1 v old.length (u64s old) := h.alloc _
  have hnews : ∀ j u, [Value.int .u64 (x : Int)][j]? = some u → (w.alloc (.cells #[.int .u64 (x : Int)] 23)).cell? ((⟨w.heap.size, 0, none⟩ : Addr).add j) = some u := cell_one_new _ _ _
  have hsz : (w.alloc (.cells #[.int .u64 (x : Int)] 23)).heap.size = w.heap.size + 1 := by simp
  obtain ⟨v', w', hr, h2, h3, h4⟩ := run_append_own (P := Try.prog) (w := w.alloc (.cells #[.int .u64 (x : Int)] 23)) lo 22 22 23 i0 (.int .u64 0) 1 8 Try.underlying22 hi hz0 hz1 hz2 rfl (by decide) v old.length (u64s old) hown
    ⟨w.heap.size, 0, none⟩ 1 1 [.int .u64 (x : Int)] rfl hnews (by simp [Value.oneCell']) (by simp [maxLen]; omega) (by omega) (by omega)
  rcases h2.2 with ⟨rfl, e0⟩ | ⟨g, cap, cur, rfl, h5⟩
  · omega
  · have hgo : some g = v.ownBlock ∨ w.heap.size < g := by
      rcases hown.2 with ⟨rfl, e0⟩ | ⟨g0, cap0, cur0, rfl, b1, b2, b3, b4, b5, b6⟩
      · have hr2 := run_append_nil (P := Try.prog) (w := w.alloc (.cells #[.int .u64 (x : Int)] 23)) 22 22 23 i0 (.int .u64 0) Try.underlying22 hi hz0 ⟨w.heap.size, 0, none⟩ 1 1 [.int .u64 (x : Int)] (by rw [hz1]; rfl) hnews (by omega) (by omega) (by rw [hz2]; omega)
        rw [hr2, hsz] at hr
        injection hr with hv _
        injection hv with hv _ _
        injection hv with hv
        injection hv with hv
        right; omega
      · by_cases hroom : old.length + 1 ≤ cap0
        · have hr2 := run_append_room (P := Try.prog) (w := w.alloc (.cells #[.int .u64 (x : Int)] 23)) 22 22 23 i0 Try.underlying22 hi g0 old.length cap0 cur0 b2 ⟨w.heap.size, 0, none⟩ 1 1 [.int .u64 (x : Int)] (by rw [hz1]; rfl) hnews (by simp [Value.oneCell']) hroom (by rw [hz1, b5]; simp; omega)
          rw [hr2] at hr
          injection hr with hv _
          injection hv with hv _ _
          injection hv with hv
          injection hv with hv
          left; rw [hv]; rfl
        · have hr2 := run_append_grow (P := Try.prog) (w := w.alloc (.cells #[.int .u64 (x : Int)] 23)) 22 22 23 i0 (.int .u64 0) Try.underlying22 hi hz0 ⟨g0, 0, none⟩ old.length cap0 (u64s old) (by rw [hz1]; exact hown.1) (hown.cells (g := g0) rfl) ⟨w.heap.size, 0, none⟩ 1 1 [.int .u64 (x : Int)] (by rw [hz1]; rfl) hnews (by omega) (by omega) (by rw [hz2]; exact growslice_fits (by omega) (by omega))
          rw [hr2, hsz] at hr
          injection hr with hv _
          injection hv with hv _ _
          injection hv with hv
          injection hv with hv
          right; omega
    exact ⟨g, cap, w', hr, by rw [u64s_snoc]; exact h2, h3, hgo⟩
theorem wpList_push2 {ops : Array Oper} {rest : List Oper} {o : Oper} {a : Act} {Q : Exit → Act → World → Prop} {w : World} (hgd : o.guard = none) (s x : Operand)
    (ho : o.op = .call { callee := .builtin .append, args := #[s, x], argTypes := #[22, 22] }) (hty : o.type = 22) (B v : Nat) (L L2 : List Nat) (u u2 : Value) (hg : Gb B w u L) (hg2 : Gb B w u2 L2) (hap : Apart u u2) (hs : a.eval s = u) (hx : a.eval x = .slice (some ⟨w.heap.size, 0, none⟩) 1 1) (hk : L.length + 1 ≤ 10000000) (hB : B ≤ w.heap.size)
    (h : ∀ z w1, Gb B w1 z (L ++ [v]) → Gb B w1 u2 L2 → Apart z u2 → Below B w w1 → wpList Try.prog ops Q rest (a.put o.dst z) w1) : wpList Try.prog ops Q (o :: rest) a (w.alloc (.cells #[.int .u64 (v : Int)] 23)) := by
  obtain ⟨g, c, w1, hr, h1, h2, h3⟩ := push_own v hg hB hk
  refine wpList_plain hgd fun K hK => ?_
  unfold Oper.wp execOp
  simp only [ho, hty, resolve, invoke, builtin, Sem.run_bind, Sem.run_pure, Result.andThen_ok, List.map_toArray, List.map_cons, List.map_nil, hs, hx, hr]
  refine hK _ _ (h _ w1 ⟨_, c, by rw [List.length_append]; rfl, by rw [List.length_append]; exact h1⟩ ((hg2.below ((Below.refl _ w).alloc (Nat.le_refl _) _)).grown h2 hap.symm) ?_ ?_)
  · intro k hk1 hk2
    have e : k = g := by injection hk1
    subst e
    rcases h3 with h3 | h3
    · exact hap k h3 hk2
    · obtain ⟨A2, c2, _, hrow2⟩ := hg2
      have := (own_ge hrow2 hk2).2
      omega
  · exact ((Below.refl B w).alloc hB _).grown h2 (by simp; omega) (fun j e => (own_ge (by obtain ⟨A0, c0, _, hrow⟩ := hg; exact hrow) e.symm).1)

theorem sorted_lv {w : World} {o : Value} {l : List Nat} {d : Nat} (h : Nv w o l d) (hd : d ≤ 1000) : Calls Try.prog 37 #[o] w fun e w' => (∃ A n c L, e = .returned (.slice A n c) ∧ Pt w' A n c L ∧ L.Pairwise (· < ·) ∧ Pl.Sm L ∧ n ≤ d) ∧ Below w.heap.size w w' := by
  obtain ⟨A, n, c, rfl, h1, h2, h3⟩ := h
  refine (sorted_any A n c l w h1.1 (by omega) h1.2.1).mono ?_
  rintro e w' ⟨⟨z, L, rfl, hg, hl, hs⟩, hb⟩
  obtain ⟨A', c', rfl, hp, _⟩ := hg.pt
  exact ⟨⟨A', _, c', L, rfl, hp, hs.1, fun x hx => by obtain ⟨j, _, e⟩ := (hs.2 x).1 hx; rw [e]; exact Fld.num_lt _, by omega⟩, hb⟩
theorem rise_dis {L : List Nat} {n : Nat} (hn : n = L.length) (h : L.Pairwise (· < ·)) (hs : Pl.Sm L) : Pl.Dis L n := fun i j hij hj e => by
  have h1 := rise_lt h hij (by omega)
  have h2 := Pl.to_inj' (hs.get i) (hs.get j) e
  omega
theorem fromd_v {w : World} {A A2 : Option Addr} {n c c2 : Nat} {xs ys : List Nat} (h1 : Pt w A n c xs) (h2 : Pt w A2 n c2 ys) (hx : Pl.Sm xs) (hy : Pl.Sm ys) (hn : n ≤ 1000) (hd : Pl.Dis xs n) :
    Calls Try.prog 29 #[.slice A n c, .slice A2 n c2] w fun e w' => (∃ z s, e = .returned z ∧ Tv w' z s n ∧ Pl.Fi xs ys n s) ∧ Below w.heap.size w w' := by
  refine (from_same A A2 n c c2 xs ys w h1.1 h2.1 (by omega) hx.big hy.big h1.2.1 h2.2.1).mono ?_
  rintro e w' ⟨⟨g1, _⟩, hb⟩
  obtain ⟨s, hp, hs⟩ := g1 hd
  obtain ⟨z, rfl, hz⟩ := Tv.mk hp hs.1
  exact ⟨⟨z, s, rfl, hz, hs⟩, hb⟩
theorem Gb.list {B : Nat} {w : World} {o : Value} {L : List Nat} {n : Nat} (h : Gb B w o L) (hn : n = L.length) : ∃ A c, o = .slice A n c ∧ Pt w A n c L := by
  subst hn
  obtain ⟨A, c, rfl, hp, _⟩ := h.gl.pt
  exact ⟨A, c, rfl, hp⟩

set_option maxRecDepth 100000 in
set_option maxHeartbeats 8000000 in
theorem lagrange_walk (A A2 A3 : Option Addr) (n0 c m c2 m3 c3 : Nat) (l l2 l3 : List Nat) (w : World) (hA : In w A n0 c l) (hB : In w A2 m c2 l2) (hC : In w A3 m3 c3 l3) :
    Calls Try.prog 9 #[.slice A n0 c, .slice A2 m c2, .slice A3 m3 c3] w fun e w' => e = .returned (.bool true) ∧ Below w.heap.size w w' := by
  have A0 := Lib.hid hA
  have B0 := Lib.hid hB
  have C0 := Lib.hid hC
  have hk0 : Below w.heap.size w w := Below.refl _ _
  clear hA hB hC
  go_enter Try.func9, Try.ntmps9
  go_wp2_with fail
  refine (numsn_v B0.out 8 (by omega)).mono ?_
  rintro e w1 ⟨⟨z, rfl, h⟩, hb1⟩
  have hk1 := kept_trans hk0 hb1
  have A1 := Lib.hid (A0.out.below hb1)
  have C1 := Lib.hid (C0.out.below hb1)
  have X1 := Lib.hid h
  clear hb1 hk0 A0 B0 C0 h
  go_wp2_with fail
  refine (sorted_lv X1.out (by omega)).mono ?_
  rintro e w2 ⟨⟨At, n, ct, L, rfl, hpt, hri, hsm, hn8⟩, hb2⟩
  have hk2 := kept_trans hk1 hb2
  have A2 := Lib.hid (A1.out.below hb2)
  have C2 := Lib.hid (C1.out.below hb2)
  have T2 := Lib.hid hpt
  have RI := Lib.hid hri
  have SM := Lib.hid hsm
  clear hb2 hk1 A1 C1 X1 hpt hri hsm
  go_wp2_with fail
  refine (nums_v A2.out 6 (by omega)).mono ?_
  rintro e w3 ⟨⟨z, rfl, h⟩, hb3⟩
  have hk3 := kept_trans hk2 hb3
  have C3 := Lib.hid (C2.out.below hb3)
  have T3 := Lib.hid (T2.out.below hb3)
  have X3 := Lib.hid h
  clear hb3 hk2 A2 C2 T2 h
  go_wp2_with fail
  refine (trim_v X3.out (by omega)).mono ?_
  rintro e w4 ⟨⟨p, rfl, h⟩, hb4⟩
  obtain ⟨Ap, np, cp, rfl, hp9, -, hpd⟩ := h.open_
  have hk4 := kept_trans hk3 hb4
  have C4 := Lib.hid (C3.out.below hb4)
  have T4 := Lib.hid (T3.out.below hb4)
  have P4 := Lib.hid h
  have PD := Lib.hid hpd
  clear hb4 hk3 C3 T3 X3 h hpd
  obtain ⟨p, hp⟩ : ∃ p, p = Pl.co (l.take 6) := ⟨_, rfl⟩
  rw [← hp] at P4 PD
  obtain ⟨f, hf⟩ : ∃ f : Nat → Nat, f = fun i => vl p (L[i]?.getD 0) := ⟨_, rfl⟩
  obtain ⟨g, hg⟩ : ∃ g : Nat → Nat, g = fun i => if i < m3 then Fld.num (l3[i]?.getD 0) else L[i]?.getD 0 := ⟨_, rfl⟩
  have hfs : ∀ i, f i < 2305843009213693951 := fun i => by rw [hf]; exact vl_lt _ _
  have hgs : ∀ i, g i < 2305843009213693951 := fun i => by
    rw [hg]
    show (if i < m3 then Fld.num (l3[i]?.getD 0) else L[i]?.getD 0) < _
    split
    · exact Fld.num_lt _
    · exact SM.out.get i
  have FS := Lib.hid (And.intro hf hfs)
  have GS := Lib.hid (And.intro hg hgs)
  clear hf hg hfs hgs hp
  go_wp2
  have hg1 := Gb.nil w4.heap.size w4
  have hap : Apart (.slice none 0 0) (.slice none 0 0) := fun k h => by cases h
  have hself : Below w4.heap.size w4 w4 := Below.refl _ _
  have HS0 := Lib.hid (And.intro hg1 (And.intro hap hself))
  clear hg1 hap hself
  go_loopw [9, 10, 11] (fun a b i wr => ∃ t : Nat, i = .int .i64 (t : Int) ∧ t ≤ n ∧ Gb w4.heap.size wr a (Pl.tab f t) ∧ Gb w4.heap.size wr b (Pl.tab g t) ∧ Apart a b ∧ Below w4.heap.size w4 wr) (fun _ _ i _ => n - (intOf i).toNat)
  case atStart => exact ⟨0, rfl, Nat.zero_le _, HS0.out.1, HS0.out.1, HS0.out.2.1, HS0.out.2.2⟩
  case round =>
    obtain ⟨t, rfl, ht, hga, hgb, hap, hbr⟩ := hrel
    have GA := Lib.hid hga
    have GB := Lib.hid hgb
    have AP := Lib.hid hap
    clear hga hgb hap HS0
    have hsz := hbr.size
    by_cases hlt : t < n
    · obtain ⟨b1, o1, e1, hb1, hc1⟩ := T4.out.2.1.num (k := t) (by rw [← T4.out.1]; exact hlt)
      have hcr := (hbr.cell (p := ⟨b1, o1 + t, none⟩) hb1).trans hc1
      have hy := SM.out.get t
      have hft : f t = vl p (L[t]?.getD 0) := by rw [FS.out.1]
      have hgt : g t = if t < m3 then Fld.num (l3[t]?.getD 0) else L[t]?.getD 0 := by rw [GS.out.1]
      have ht1 := Pl.tab_succ f t
      have ht2 := Pl.tab_succ g t
      have hl1 := Pl.tab_len f t
      have hl2 := Pl.tab_len g t
      obtain ⟨y, hye⟩ : ∃ y, y = L[t]?.getD 0 := ⟨_, rfl⟩
      rw [← hye] at hcr hy hft hgt
      obtain ⟨v, hv⟩ : ∃ v, v = f t := ⟨_, rfl⟩
      obtain ⟨u, hu⟩ : ∃ u, u = g t := ⟨_, rfl⟩
      rw [← hv] at hft ht1
      rw [← hu] at hgt ht2
      have hev := eval_v (P4.out.below hbr).q (by omega) y (by omega)
      rw [← hft] at hev
      have HEV := Lib.hid hev
      have T1 := Lib.hid ht1
      have T2 := Lib.hid ht2
      have L1 := Lib.hid (show (Pl.tab f t).length + 1 ≤ 10000000 by omega)
      have L2 := Lib.hid (show (Pl.tab g t).length + 1 ≤ 10000000 by omega)
      have q1 : (0 : Int) ≤ (t : Int) := by omega
      have q2 : (t : Int) < (n : Int) := by omega
      have q3 : (t : Int) ≤ 1000 := by omega
      clear hc1 hye hv hu hft ht1 ht2 hl1 hl2 hev
      subst e1
      by_cases hm : t < m3
      · obtain ⟨b2, o2, e2, hb2, hc2⟩ := C4.out.2.2.2.1.num (k := t) (by rw [← C4.out.1]; exact hm)
        have hcy := (hbr.cell (p := ⟨b2, o2 + t, none⟩) hb2).trans hc2
        have hz64 := get_big C4.out.2.2.1 t
        rw [if_pos hm] at hgt
        obtain ⟨z, hz⟩ : ∃ z, z = l3[t]?.getD 0 := ⟨_, rfl⟩
        rw [← hz] at hcy hz64 hgt
        have hnm := fun W => num_any z W hz64
        rw [← hgt] at hnm
        have HNM := Lib.hid hnm
        have q4 : (t : Int) < (m3 : Int) := by omega
        clear hc2 hz hgt hnm
        subst e2
        go_wp2_with fail
        refine HEV.out.mono ?_
        rintro e wa ⟨rfl, hba⟩
        have GA2 := Lib.hid (GA.out.below hba)
        have GB2 := Lib.hid (GB.out.below hba)
        have hba2 := hbr.trans (hba.mono hsz)
        have hszA := hba2.size
        have hcrA := (hba.cell (p := ⟨b1, o1 + t, none⟩) (by show b1 < wr.heap.size; omega)).trans hcr
        have hcyA := (hba.cell (p := ⟨b2, o2 + t, none⟩) (by show b2 < wr.heap.size; omega)).trans hcy
        go_wp2_with (first
          | (go_at_call 40; ((with_reducible refine (HNM.out _).mono ?_); rintro e w' ⟨rfl, rfl⟩))
          | (at_builtin; refine wpList_push2 rfl _ _ rfl rfl w4.heap.size v (Pl.tab f t) (Pl.tab g t) _ _ GA2.out GB2.out AP.out rfl rfl L1.out hszA ?_; intro z1 wb hz1 hz2 ha1 hbb; have hcrB := (hbb.cell (p := ⟨b1, o1 + t, none⟩) hb1).trans hcrA; have hcyB := (hbb.cell (p := ⟨b2, o2 + t, none⟩) hb2).trans hcyA; have Z1 := Lib.hid hz1; have Z2 := Lib.hid hz2; have A1 := Lib.hid ha1; clear hz1 hz2 ha1)
          | (at_builtin; refine wpList_push2 rfl _ _ rfl rfl w4.heap.size u (Pl.tab g t) (Pl.tab f t ++ [v]) _ _ Z2.out Z1.out A1.out.symm rfl rfl L2.out (hba2.trans hbb).size ?_; intro z2 wc hz3 hz4 ha2 hbc; have Z3 := Lib.hid hz3; have Z4 := Lib.hid hz4; have A2' := Lib.hid ha2; clear hz3 hz4 ha2))
        go_roundw
        case rel => exact ⟨t + 1, by go_num, hlt, by rw [T1.out]; exact Z4.out, by rw [T2.out]; exact Z3.out, A2'.out.symm, (hba2.trans hbb).trans hbc⟩
        case measure => simp [intOf]; omega
      · rw [if_neg hm] at hgt
        subst hgt
        go_wp2_with fail
        refine HEV.out.mono ?_
        rintro e wa ⟨rfl, hba⟩
        have GA2 := Lib.hid (GA.out.below hba)
        have GB2 := Lib.hid (GB.out.below hba)
        have hba2 := hbr.trans (hba.mono hsz)
        have hszA := hba2.size
        have hcrA := (hba.cell (p := ⟨b1, o1 + t, none⟩) (by show b1 < wr.heap.size; omega)).trans hcr
        go_wp2_with (first
          | (at_builtin; refine wpList_push2 rfl _ _ rfl rfl w4.heap.size v (Pl.tab f t) (Pl.tab g t) _ _ GA2.out GB2.out AP.out rfl rfl L1.out hszA ?_; intro z1 wb hz1 hz2 ha1 hbb; have hcrB := (hbb.cell (p := ⟨b1, o1 + t, none⟩) hb1).trans hcrA; have Z1 := Lib.hid hz1; have Z2 := Lib.hid hz2; have A1 := Lib.hid ha1; clear hz1 hz2 ha1)
          | (at_builtin; refine wpList_push2 rfl _ _ rfl rfl w4.heap.size u (Pl.tab g t) (Pl.tab f t ++ [v]) _ _ Z2.out Z1.out A1.out.symm rfl rfl L2.out (hba2.trans hbb).size ?_; intro z2 wc hz3 hz4 ha2 hbc; have Z3 := Lib.hid hz3; have Z4 := Lib.hid hz4; have A2' := Lib.hid ha2; clear hz3 hz4 ha2))
        go_roundw
        case rel => exact ⟨t + 1, by go_num, hlt, by rw [T1.out]; exact Z4.out, by rw [T2.out]; exact Z3.out, A2'.out.symm, (hba2.trans hbb).trans hbc⟩
        case measure => simp [intOf]; omega
    · obtain rfl : t = n := by omega
      have hkr := kept_trans hk4 hbr
      obtain ⟨Ao, co, rfl, hpo⟩ := GA.out.list (n := t) (Pl.tab_len f t).symm
      obtain ⟨Ag, cg, rfl, hpg⟩ := GB.out.list (n := t) (Pl.tab_len g t).symm
      have PF := Lib.hid hpo
      have PO := Lib.hid hpg
      have hfsm : Pl.Sm (Pl.tab f t) := Pl.sm_tab FS.out.2
      have hgsm : Pl.Sm (Pl.tab g t) := Pl.sm_tab GS.out.2
      have FSM := Lib.hid hfsm
      have GSM := Lib.hid hgsm
      have TR := Lib.hid (T4.out.below hbr)
      have PR := Lib.hid (P4.out.below hbr)
      have DIS := Lib.hid (rise_dis TR.out.1 RI.out SM.out)
      clear hpo hpg hfsm hgsm GA GB AP
      by_cases hnp : np ≤ t
      · have hlp : Pl.Lt p t := by
          by_cases h0 : p = 0
          · rw [h0]; exact Pl.Lt.zero _
          · obtain ⟨m, hm⟩ := PR.out.q.po.dg h0
            exact hm.2.mono (by have := PD.out m hm; omega)
        have hfp : Pl.Fi L (Pl.tab f t) t p := ⟨hlp, fun j hj => by
          rw [Pl.co_tab, if_pos hj, FS.out.1]
          show _ = Fld.to (vl p (L[j]?.getD 0))
          rw [to_vl]; rfl⟩
        have HFP := Lib.hid hfp
        clear hlp hfp
        go_wp2_with fail
        refine (fromd_v TR.out PF.out SM.out FSM.out (by omega) DIS.out).mono ?_
        rintro e wo ⟨⟨z5, s5, rfl, h5, hfi5⟩, hbo⟩
        have e5 := hfi5.uniq DIS.out HFP.out
        subst e5
        have H5 := Lib.hid h5
        clear h5 hfi5
        go_wp2_with fail
        refine (same_v H5.out (PR.out.below hbo) (by omega) (by omega)).mono ?_
        rintro e wp ⟨rfl, hbp⟩
        have hbop := kept_trans hbo hbp
        have hkp := kept_trans hkr hbop
        go_wp2_with fail
        refine (fromd_v (TR.out.below hbop) (PO.out.below hbop) SM.out GSM.out (by omega) DIS.out).mono ?_
        rintro e wq ⟨⟨z6, s, rfl, h6, hfi⟩, hbq⟩
        obtain ⟨A6, n6, c6, rfl, hn6, -, -⟩ := h6.open_
        have Q6 := Lib.hid h6
        have FI := Lib.hid hfi
        have TQ := Lib.hid ((TR.out.below hbop).below hbq)
        have OQ := Lib.hid ((PO.out.below hbop).below hbq)
        have hkq := kept_trans hkp hbq
        have u1 : ¬ t < n6 := by omega
        clear h6 hfi
        go_wp2
        have hself : Below wq.heap.size wq wq := Below.refl _ _
        go_loopw [14] (fun i wr => ∃ j : Nat, i = .int .i64 (j : Int) ∧ j ≤ t ∧ Below wq.heap.size wq wr) (fun i _ => t - (intOf i).toNat)
        case atStart => exact ⟨0, rfl, Nat.zero_le _, hself⟩
        case round =>
          obtain ⟨j, rfl, hj, hbj⟩ := hrel
          clear hself
          have hszj := hbj.size
          by_cases hlj : j < t
          · obtain ⟨b5, o5, e5, hb5, hc5⟩ := TQ.out.2.1.num (k := j) (by rw [← TQ.out.1]; exact hlj)
            obtain ⟨b7, o7, e7, hb7, hc7⟩ := OQ.out.2.1.num (k := j) (by rw [← OQ.out.1]; exact hlj)
            have hc5r := (hbj.cell (p := ⟨b5, o5 + j, none⟩) hb5).trans hc5
            have hc7r := (hbj.cell (p := ⟨b7, o7 + j, none⟩) hb7).trans hc7
            have hyl := SM.out.get j
            have hgl := GSM.out.get j
            have hval : vl s (L[j]?.getD 0) = (Pl.tab g t)[j]?.getD 0 := by
              refine Pl.to_inj' (vl_lt _ _) hgl ?_
              rw [to_vl]
              exact FI.out.2 j hlj
            obtain ⟨y, hy⟩ : ∃ y, y = L[j]?.getD 0 := ⟨_, rfl⟩
            obtain ⟨v, hv⟩ : ∃ v, v = (Pl.tab g t)[j]?.getD 0 := ⟨_, rfl⟩
            rw [← hy] at hc5r hyl hval
            rw [← hv] at hc7r hval
            have hev := fun W (hW : Below wr.heap.size wr W) => eval_v ((Q6.out.below hbj).below hW).q (by omega) y (by omega)
            rw [hval] at hev
            have HEV := Lib.hid hev
            have q1 : (0 : Int) ≤ (j : Int) := by omega
            have q2 : (j : Int) < (t : Int) := by omega
            have hrr : Below wr.heap.size wr wr := Below.refl _ _
            clear hc5 hc7 hy hv hval hev hgl
            subst e5 e7
            go_wp2
            go_region_held3 (fun w' : World => w'.cell? ⟨b5, o5 + j, none⟩ = some (.int .u64 (y : Int)) ∧ w'.cell? ⟨b7, o7 + j, none⟩ = some (.int .u64 (v : Int)))
              ((first | exact ⟨hc5r, hc7r⟩ | exact ⟨((below_of_drew hbe).cell (p := ⟨b5, o5 + j, none⟩) (by show b5 < wr.heap.size; omega)).trans hc5r, ((below_of_drew hbe).cell (p := ⟨b7, o7 + j, none⟩) (by show b7 < wr.heap.size; omega)).trans hc7r⟩))
              (first
                | (go_at_call 20; ((with_reducible refine (HEV.out _ (below_to_drew hrr)).mono ?_); rintro e we ⟨rfl, hbe'⟩; have hbe : Below wr.heap.size wr.drew we := hbe')))
            all_goals
              have hbe2 : Below wr.heap.size wr we := below_of_drew hbe
              go_wp2
              go_roundw
              case rel => exact ⟨j + 1, by go_num, hlj, kept_trans hbj hbe2⟩
              case measure => simp [intOf]; omega
          · have hkj := kept_trans hkq hbj
            go_wp2_with fail
            refine (lives_any _).mono ?_
            rintro e wz ⟨rfl, hbz⟩
            go_wp2
            go_ret
            exact ⟨rfl, kept_trans hkj hbz⟩
      · have hself0 : Below wr.heap.size wr wr := Below.refl _ _
        go_wp2_with fail
        refine (fromd_v (TR.out.below hself0) (PO.out.below hself0) SM.out GSM.out (by omega) DIS.out).mono ?_
        rintro e wq ⟨⟨z6, s, rfl, h6, hfi⟩, hbq⟩
        obtain ⟨A6, n6, c6, rfl, hn6, -, -⟩ := h6.open_
        have Q6 := Lib.hid h6
        have FI := Lib.hid hfi
        have TQ := Lib.hid ((TR.out.below hself0).below hbq)
        have OQ := Lib.hid ((PO.out.below hself0).below hbq)
        have hkq := kept_trans hkr hbq
        have u1 : ¬ t < n6 := by omega
        clear h6 hfi
        go_wp2
        have hself : Below wq.heap.size wq wq := Below.refl _ _
        go_loopw [14] (fun i wr => ∃ j : Nat, i = .int .i64 (j : Int) ∧ j ≤ t ∧ Below wq.heap.size wq wr) (fun i _ => t - (intOf i).toNat)
        case atStart => exact ⟨0, rfl, Nat.zero_le _, hself⟩
        case round =>
          obtain ⟨j, rfl, hj, hbj⟩ := hrel
          clear hself
          have hszj := hbj.size
          by_cases hlj : j < t
          · obtain ⟨b5, o5, e5, hb5, hc5⟩ := TQ.out.2.1.num (k := j) (by rw [← TQ.out.1]; exact hlj)
            obtain ⟨b7, o7, e7, hb7, hc7⟩ := OQ.out.2.1.num (k := j) (by rw [← OQ.out.1]; exact hlj)
            have hc5r := (hbj.cell (p := ⟨b5, o5 + j, none⟩) hb5).trans hc5
            have hc7r := (hbj.cell (p := ⟨b7, o7 + j, none⟩) hb7).trans hc7
            have hyl := SM.out.get j
            have hgl := GSM.out.get j
            have hval : vl s (L[j]?.getD 0) = (Pl.tab g t)[j]?.getD 0 := by
              refine Pl.to_inj' (vl_lt _ _) hgl ?_
              rw [to_vl]
              exact FI.out.2 j hlj
            obtain ⟨y, hy⟩ : ∃ y, y = L[j]?.getD 0 := ⟨_, rfl⟩
            obtain ⟨v, hv⟩ : ∃ v, v = (Pl.tab g t)[j]?.getD 0 := ⟨_, rfl⟩
            rw [← hy] at hc5r hyl hval
            rw [← hv] at hc7r hval
            have hev := fun W (hW : Below wr.heap.size wr W) => eval_v ((Q6.out.below hbj).below hW).q (by omega) y (by omega)
            rw [hval] at hev
            have HEV := Lib.hid hev
            have q1 : (0 : Int) ≤ (j : Int) := by omega
            have q2 : (j : Int) < (t : Int) := by omega
            have hrr : Below wr.heap.size wr wr := Below.refl _ _
            clear hc5 hc7 hy hv hval hev hgl
            subst e5 e7
            go_wp2
            go_region_held3 (fun w' : World => w'.cell? ⟨b5, o5 + j, none⟩ = some (.int .u64 (y : Int)) ∧ w'.cell? ⟨b7, o7 + j, none⟩ = some (.int .u64 (v : Int)))
              ((first | exact ⟨hc5r, hc7r⟩ | exact ⟨((below_of_drew hbe).cell (p := ⟨b5, o5 + j, none⟩) (by show b5 < wr.heap.size; omega)).trans hc5r, ((below_of_drew hbe).cell (p := ⟨b7, o7 + j, none⟩) (by show b7 < wr.heap.size; omega)).trans hc7r⟩))
              (first
                | (go_at_call 20; ((with_reducible refine (HEV.out _ (below_to_drew hrr)).mono ?_); rintro e we ⟨rfl, hbe'⟩; have hbe : Below wr.heap.size wr.drew we := hbe')))
            all_goals
              have hbe2 : Below wr.heap.size wr we := below_of_drew hbe
              go_wp2
              go_roundw
              case rel => exact ⟨j + 1, by go_num, hlj, kept_trans hbj hbe2⟩
              case measure => simp [intOf]; omega
          · have hkj := kept_trans hkq hbj
            go_wp2_with fail
            refine (lives_any _).mono ?_
            rintro e wz ⟨rfl, hbz⟩
            go_wp2
            go_ret
            exact ⟨rfl, kept_trans hkj hbz⟩

end Go.Proofs.Ytalljoneflepiaa
