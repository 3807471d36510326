/-
  SketchShort, walked: a shorter sketch begins a longer one, the row of a set is nothing, and no value is 0.
-/
import Derived.Test.YtcbcmnbfflaicaaSkv
namespace Go.Proofs.Ytcbcmnbfflaicaa
open Go.RowKit
open Sk (pt Fit)

theorem wp_app64 {o : Oper} {a : Act} {K : Act → World → Prop} {Q : Exit → Act → World → Prop} {w : World} (s x : Operand)
    (ho : o.op = .call { callee := .builtin .append, args := #[s, x], argTypes := #[25, 25] }) (B : Nat) (L l2 : List Nat) (u : Value) (A2 : Option Addr) (q c2 : Nat) (hg : Gl B w u L) (hs : a.eval s = u) (hx : a.eval x = .slice A2 q c2)
    (hq : q = l2.length) (hR : Rd w.heap.size w A2 (u64s l2)) (hnil : A2 = none → c2 = 0 ∧ q = 0) (hk : L.length + q ≤ 1000000000) (hB : B ≤ w.heap.size)
    (h : ∀ z w1, Gl B w1 z (L ++ l2) → Below B w w1 → K (a.put o.dst z) w1) : Oper.wp Try.prog o a w K Q := by
  obtain ⟨i0, hi, hz0, hz1, hz2⟩ := info_parts info_u64
  obtain ⟨A, c, rfl, hrow⟩ := hg
  rcases A2 with _ | ad
  · obtain ⟨rfl, rfl⟩ := hnil rfl
    obtain rfl : l2 = [] := List.eq_nil_of_length_eq_zero hq.symm
    have hrun := run_append_owned_none (P := Try.prog) (w := w) B 25 o.type 22 i0 1 Try.underlying25 hi _ _ _ hrow
    unfold Oper.wp
    simp [execOp, ho, resolve, invoke, builtin, hs, hx, hrun, Result.andThen]
    exact h _ w ⟨A, c, by rw [List.append_nil], by rw [List.append_nil]; exact hrow⟩ (Below.refl _ _)
  · refine wp_append_own w s x 25 ho B 22 i0 (.int .u64 0) 1 8 Try.underlying25 hi hz0 hz1 hz2 rfl (by decide) _ _ _ hs hrow ad q c2 (u64s l2) hx (by rw [u64s_len, hq, Nat.mul_one]) ?_ ?_ (by unfold maxLen; omega) (by omega) hB ?_
    · rcases Nat.eq_zero_or_pos q with h0 | h0
      · obtain rfl : l2 = [] := List.eq_nil_of_length_eq_zero (by omega)
        intro j v hv
        simp [u64s] at hv
      · obtain ⟨b, off, e, _, hc⟩ := hR (by rw [u64s_len]; omega)
        injection e with e
        subst e
        intro j v hv
        rw [Addr.add_lit]
        exact hc j v hv
    · intro v hv
      obtain ⟨y, _, rfl⟩ := List.mem_map.1 hv
      rfl
    · intro v' w1 hown hgrow _
      have hown2 : w1.ownsRow B 22 1 v' (L.length + q) (u64s (L ++ l2)) := by
        have e : u64s (L ++ l2) = u64s L ++ u64s l2 := by unfold u64s; rw [List.map_append]
        rw [e]; exact hown
      have hlen : (L ++ l2).length = L.length + q := by rw [List.length_append, hq]
      refine h v' w1 ?_ (((Below.refl B w)).grown hgrow hB (fun j e => (own_ge hrow e.symm).1))
      rcases hown2.2 with ⟨rfl, e0⟩ | ⟨g, cp, cur, rfl, h5⟩
      · exact ⟨none, 0, by rw [hlen, e0], by rw [hlen, e0]; rw [e0] at hown2; exact hown2⟩
      · exact ⟨_, cp, by rw [hlen], by rw [hlen]; exact hown2⟩
theorem Nv.rd_take {w : World} {A : Option Addr} {n c d : Nat} {l : List Nat} (h : Nv w (.slice A n c) l d) (k : Nat) : Rd w.heap.size w A (u64s (l.take k)) := by
  obtain ⟨A', n', c', e, hp, _, _⟩ := h
  injection e with e1 e2 e3
  subst e1 e2 e3
  exact hp.2.1.take k
theorem vls_perm {a b : List Nat} (h : a.Perm b) (n : Nat) : vls a n = vls b n := by
  unfold vls
  congr 1
  exact funext fun k => sv_perm h _
theorem vls_take (a : List Nat) {n m : Nat} (h : n ≤ m) : (vls a m).take n = vls a n := tab_take _ h
theorem rot_perm (a : List Nat) (k : Nat) : (a.drop k ++ a.take k).Perm a := by
  refine List.Perm.trans List.perm_append_comm ?_
  rw [List.take_append_drop]

set_option maxRecDepth 100000 in
set_option maxHeartbeats 8000000 in
theorem short_walk (A : Option Addr) (n1 c1 : Nat) (l : List Nat) (z y x : Int) (w : World) (hA : In w A n1 c1 l) (hz1 : -9223372036854775808 ≤ z) (hz2 : z ≤ 9223372036854775807) (hy1 : -9223372036854775808 ≤ y) (hy2 : y ≤ 9223372036854775807) (hx1 : -9223372036854775808 ≤ x) (hx2 : x ≤ 9223372036854775807) :
    Calls Try.prog 7 #[.slice A n1 c1, .int .i64 z, .int .i64 y, .int .i64 x] w fun e w' => e = .returned (.bool true) ∧ Below w.heap.size w w' := by
  have L0 := Lib.hid (hA)
  have KB0 := Lib.hid (Below.refl w.heap.size w)
  have HZ := Lib.hid (And.intro hz1 hz2)
  have HY := Lib.hid (And.intro hy1 hy2)
  have HX := Lib.hid (And.intro hx1 hx2)
  clear hA hz1 hz2 hy1 hy2 hx1 hx2
  obtain ⟨a, ha⟩ : ∃ a, a = setf l := ⟨_, rfl⟩
  have SA := Lib.hid (show St a by rw [ha]; exact st_set l)
  have LA := Lib.hid (show a.length ≤ 12 by rw [ha]; exact setf_len l)
  have HAE := Lib.hid ha
  clear ha
  obtain ⟨na, hna⟩ : ∃ na, na = a.length := ⟨_, rfl⟩
  have hna12 : na ≤ 12 := by have := LA.out; omega
  have HNA := Lib.hid hna
  clear hna
  obtain ⟨t, ht⟩ : ∃ t, t = na + 1 := ⟨_, rfl⟩
  have s0 : (na : Int) + 1 = (t : Int) := by omega
  have ht13 : t ≤ 13 := by omega
  have ht0 : 0 < t := by omega
  have HT := Lib.hid ht
  clear ht
  go_enter Try.func7, Try.ntmps7
  go_wp2_with fail
  refine (set_v L0.out).mono ?_
  rintro e w1 ⟨⟨z1, rfl, hs1⟩, hb1⟩
  have KB1 := Lib.hid (KB0.out.trans (hb1.mono KB0.out.size))
  clear hb1
  have S1 := Lib.hid hs1
  clear hs1
  rw [← HAE.out] at S1
  obtain ⟨As, ms, cs, rfl, hps, hls, hms⟩ := S1.out
  have hmsn : ms = na := by have := hps.1; have := HNA.out; omega
  subst hmsn
  clear hls hms
  have hncs := hps.2.2.1
  have hnil := hps.2.2.2
  clear hps
  go_wp2_with fail
  refine (around_v z t _ HZ.out.1 HZ.out.2 ht0 (by omega)).mono ?_
  rintro e w2 ⟨⟨k, hkt, rfl⟩, hb2⟩
  have S2 := Lib.hid (S1.out.below hb2)
  have KB2 := Lib.hid (KB1.out.trans (hb2.mono KB1.out.size))
  clear hb2
  have hkm : k ≤ ms := by have := HT.out; omega
  obtain ⟨At, ct, hsl2, htn, htr⟩ := slice_tail As ms cs k (ms - k) hkm rfl hncs hnil
  have r1 := slice_head 25 (by kernel_rfl) (fun W => by kernel_rfl) As ms cs k (by omega)
  obtain ⟨q, hq⟩ : ∃ q, q = ms - k := ⟨_, rfl⟩
  obtain ⟨Ax, mx, cx, ex, hpx, -, -⟩ := S2.out
  injection ex with e1' e2' e3'
  subst e1' e2' e3'
  have hbe := (below_to_drew (Below.refl w2.heap.size w2)).alloc (Nat.le_refl _) (.cells #[] 22)
  have hge := gl_empty w2.drew
  have hpe := hpx.below hbe
  have hRt := htr _ _ _ HNA.out hpe.2.1
  rw [← hq] at hsl2 htn
  have HGE := Lib.hid hge
  have HBE := Lib.hid hbe
  have HPE := Lib.hid hpe
  have HRT := Lib.hid hRt
  have HTN := Lib.hid htn
  have HQ := Lib.hid hq
  have HNIL := Lib.hid hnil
  have HNCS := Lib.hid hncs
  clear hbe hge hpe hpx hRt htr htn hq hnil hncs
  go_wp2
  refine wp_region_held_drew (S := (fun w' : World => (Instr.slice 25 (.slice As ms cs) (some (.int .i64 (k : Int))) none none).run Try.prog w' = .ok (.slice At q ct) w' ∧ (Instr.slice 25 (.slice As ms cs) none (some (.int .i64 (k : Int))) none).run Try.prog w' = .ok (.slice As k cs) w')) (by kernel_rfl) ⟨hsl2 _, r1 _⟩ (fun hHeld => ?_)
  try simp only [Act.put, List.getElem_toArray, List.getElem_cons_succ, List.getElem_cons_zero, List.setIfInBounds_toArray, List.set_cons_zero, List.set_cons_succ]
  refine wpAnyH_take (i := 1) (v := ?_) rfl (by kernel_rfl) (by kernel_rfl) (by kernel_rfl) (fun _ _ _ h => h) (Or.inl ⟨by rfl, ?_⟩) (by assumption) ?_
  rotate_left
  · (intro w hSw; (try dsimp only at hSw); obtain ⟨s0, s1⟩ := hSw; go_simp; try (with_reducible rfl))
  try simp only [Act.put, List.getElem_toArray, List.getElem_cons_succ, List.getElem_cons_zero, List.setIfInBounds_toArray, List.set_cons_zero, List.set_cons_succ]
  refine wpAnyH_take (i := 2) (v := ?_) rfl (by kernel_rfl) (by kernel_rfl) (by kernel_rfl) (fun _ _ _ h => h) (Or.inl ⟨by rfl, ?_⟩) (by assumption) ?_
  rotate_left
  · (intro w hSw; (try dsimp only at hSw); obtain ⟨s0, s1⟩ := hSw; go_simp; try (with_reducible rfl))
  try simp only [Act.put, List.getElem_toArray, List.getElem_cons_succ, List.getElem_cons_zero, List.setIfInBounds_toArray, List.set_cons_zero, List.set_cons_succ]
  refine wpAnyH_take (i := 3) (v := ?_) rfl (by kernel_rfl) (by kernel_rfl) (by kernel_rfl) (fun _ _ _ h => h) (Or.inl ⟨by rfl, ?_⟩) (by assumption) ?_
  rotate_left
  · (intro w hSw; (try dsimp only at hSw); obtain ⟨s0, s1⟩ := hSw; go_simp; try (with_reducible rfl))
  try simp only [Act.put, List.getElem_toArray, List.getElem_cons_succ, List.getElem_cons_zero, List.setIfInBounds_toArray, List.set_cons_zero, List.set_cons_succ]
  refine wpAnyH_take (i := 5) (v := ?_) rfl (by kernel_rfl) (by kernel_rfl) (by kernel_rfl) (fun _ _ _ h => h) (Or.inl ⟨by rfl, ?_⟩) (by assumption) ?_
  rotate_left
  · (intro w hSw; (try dsimp only at hSw); obtain ⟨s0, s1⟩ := hSw; go_simp; try (with_reducible rfl))
  try simp only [Act.put, List.getElem_toArray, List.getElem_cons_succ, List.getElem_cons_zero, List.setIfInBounds_toArray, List.set_cons_zero, List.set_cons_succ]
  refine wpAnyH_take (i := 6) (v := ?_) rfl (by kernel_rfl) (by kernel_rfl) (by kernel_rfl) (fun _ _ _ h => h) (Or.inl ⟨by rfl, ?_⟩) (by assumption) ?_
  rotate_left
  · (intro w hSw; (try dsimp only at hSw); obtain ⟨s0, s1⟩ := hSw; go_simp; try (with_reducible rfl))
  try simp only [Act.put, List.getElem_toArray, List.getElem_cons_succ, List.getElem_cons_zero, List.setIfInBounds_toArray, List.set_cons_zero, List.set_cons_succ]
  refine wpAnyH_take (i := 7) (v := ?_) rfl (by kernel_rfl) (by kernel_rfl) (by kernel_rfl) (fun _ _ _ h => h) (Or.inl ⟨by rfl, ?_⟩) (by assumption) ?_
  rotate_left
  · (intro w hSw; (try dsimp only at hSw); obtain ⟨s0, s1⟩ := hSw; go_simp; try (with_reducible rfl))
  try simp only [Act.put, List.getElem_toArray, List.getElem_cons_succ, List.getElem_cons_zero, List.setIfInBounds_toArray, List.set_cons_zero, List.set_cons_succ]
  refine wpAnyH_ready (rs := [0]) (by kernel_rfl) (by simp) ?_
  refine AllReadyH.cons rfl (fun K hK => ?_) AllReadyH.nil
  go_simp
  refine hK.out _ _ ⟨hsl2 _, r1 _⟩ (fun hHeld1 => ?_)
  clear hK K
  try simp only [Act.put, List.getElem_toArray, List.getElem_cons_succ, List.getElem_cons_zero, List.setIfInBounds_toArray, List.set_cons_zero, List.set_cons_succ]
  refine wpAnyH_ready (rs := [4]) (by kernel_rfl) (by simp) ?_
  refine AllReadyH.cons rfl (fun K hK => ?_) AllReadyH.nil
  refine wp_app64 (.tmp 24) (.tmp 27) rfl w2.heap.size [] (a.drop k) _ At q ct HGE.out rfl rfl (by rw [List.length_drop]; have := HQ.out; have := HNA.out; omega) HRT.out HTN.out (by have := HQ.out; simp; omega) HBE.out.size ?_
  intro z8 w8 hz8 hb8
  have HZ8 := Lib.hid hz8
  have HB8 := Lib.hid (HBE.out.trans hb8)
  clear hz8 hb8
  refine hK.out _ _ ⟨hsl2 _, r1 _⟩ (fun hHeld2 => ?_)
  clear hK K
  try simp only [Act.put, List.getElem_toArray, List.getElem_cons_succ, List.getElem_cons_zero, List.setIfInBounds_toArray, List.set_cons_zero, List.set_cons_succ]
  refine wpAnyH_ready (rs := [8]) (by kernel_rfl) (by simp) ?_
  refine AllReadyH.cons rfl (fun K hK => ?_) AllReadyH.nil
  refine wp_app64 (.tmp 28) (.tmp 31) rfl w2.heap.size _ (a.take k) _ As k cs HZ8.out rfl rfl (by rw [List.length_take]; have := HNA.out; omega) ((S2.out.below HB8.out).rd_take k) (fun e => by have := HNIL.out e; have := HNCS.out; omega) (by rw [List.nil_append, List.length_drop]; have := HNA.out; omega) HB8.out.size ?_
  intro z9 w9 hz9 hb9
  have HZ9 := Lib.hid hz9
  have HB9 := Lib.hid (HB8.out.trans hb9)
  clear hz9 hb9
  refine hK.out _ _ ⟨hsl2 _, r1 _⟩ (fun hHeld3 => ?_)
  clear hK K
  try simp only [Act.put, List.getElem_toArray, List.getElem_cons_succ, List.getElem_cons_zero, List.setIfInBounds_toArray, List.set_cons_zero, List.set_cons_succ]
  refine wpAnyH_take (i := 9) (v := ?_) rfl (by kernel_rfl) (by kernel_rfl) (by kernel_rfl) (fun _ _ _ h => h) (Or.inl ⟨by rfl, ?_⟩) (by assumption) ?_
  rotate_left
  · (intro w hSw; (try dsimp only at hSw); obtain ⟨s0, s1⟩ := hSw; go_simp; try (with_reducible rfl))
  try simp only [Act.put, List.getElem_toArray, List.getElem_cons_succ, List.getElem_cons_zero, List.setIfInBounds_toArray, List.set_cons_zero, List.set_cons_succ]
  refine wpAnyH_done (by kernel_rfl) ?_ _
  clear hHeld hHeld1 hHeld2 hHeld3 r1 hsl2
  have hnv : Nv w9 z9 (a.drop k ++ a.take k) 12 := by
    have h := HZ9.out
    rw [List.nil_append] at h
    have hp := rot_perm a k
    exact h.nv_ (fun v hv => SA.out.el.big v (hp.mem_iff.1 hv)) (by rw [hp.length_eq]; exact LA.out)
  have N40 := Lib.hid hnv
  clear hnv
  have S40 := Lib.hid (S2.out.below HB9.out)
  have KB40 := Lib.hid (KB2.out.trans (HB9.out.mono KB2.out.size))
  go_wp2_with fail
  refine (around_v y 21 _ HY.out.1 HY.out.2 (by omega) (by omega)).mono ?_
  rintro e w41 ⟨⟨n, hn21, rfl⟩, hb41⟩
  have S41 := Lib.hid (S40.out.below hb41)
  have N41 := Lib.hid (N40.out.below hb41)
  have KB41 := Lib.hid (KB40.out.trans (hb41.mono KB40.out.size))
  clear hb41
  go_wp2_with fail
  refine (around_v x 21 _ HX.out.1 HX.out.2 (by omega) (by omega)).mono ?_
  rintro e w42 ⟨⟨r3, hr21, rfl⟩, hb42⟩
  have S42 := Lib.hid (S41.out.below hb42)
  have N42 := Lib.hid (N41.out.below hb42)
  have KB42 := Lib.hid (KB41.out.trans (hb42.mono KB41.out.size))
  clear hb42
  obtain ⟨m, hm⟩ : ∃ m, m = n + r3 := ⟨_, rfl⟩
  have s3 : (n : Int) + (r3 : Int) = (m : Int) := by omega
  have hnm : n ≤ m := by omega
  have hml : m ≤ 40 := by omega
  clear hm
  go_wp2_with fail
  refine (of_vn S42.out HNA.out (by omega) (by omega)).mono ?_
  rintro e w43 ⟨⟨A1, e1, rfl, hk1⟩, hb43⟩
  have N43 := Lib.hid (N42.out.below hb43)
  have KB43 := Lib.hid (KB42.out.trans (hb43.mono KB42.out.size))
  clear hb43
  have K43 := Lib.hid hk1
  clear hk1
  have hb44 := (Below.refl w43.heap.size w43).alloc (Nat.le_refl _) ((.cells #[.int .i64 (ms : Int), .slice A1 n e1] 29))
  have N44 := Lib.hid (N43.out.below hb44)
  have K44 := Lib.hid (K43.out.below hb44)
  have KB44 := Lib.hid (KB43.out.trans (hb44.mono KB43.out.size))
  clear hb44
  have BS44 := Lib.hid (Bs.new w43 ms A1 n e1)
  go_wp2_with fail
  refine (of_vn (na := ms) N44.out (by rw [(rot_perm a k).length_eq]; exact HNA.out) (by omega) (by omega)).mono ?_
  rintro e w45 ⟨⟨A2, e2, rfl, hk2⟩, hb45⟩
  have K45 := Lib.hid (K44.out.below hb45)
  have BS45 := Lib.hid (BS44.out.below hb45)
  have KB45 := Lib.hid (KB44.out.trans (hb45.mono KB44.out.size))
  clear hb45
  have Q45 := Lib.hid hk2
  clear hk2
  have HVP := Lib.hid (vls_perm (rot_perm a k) m)
  have hb46 := (Below.refl w45.heap.size w45).alloc (Nat.le_refl _) ((.cells #[.int .i64 (ms : Int), .slice A2 m e2] 29))
  have K46 := Lib.hid (K45.out.below hb46)
  have BS46 := Lib.hid (BS45.out.below hb46)
  have Q46 := Lib.hid (Q45.out.below hb46)
  have KB46 := Lib.hid (KB45.out.trans (hb46.mono KB45.out.size))
  clear hb46
  have BT46 := Lib.hid (Bs.new w45 ms A2 m e2)
  have qBS0 := BS46.out.c0
  have qBS1 := BS46.out.c1
  have qBT0 := BT46.out.c0
  have qBT1 := BT46.out.c1
  obtain ⟨wl, hwl⟩ : ∃ wl, wl = w45.alloc (.cells #[.int .i64 (ms : Int), .slice A2 m e2] 29) := ⟨_, rfl⟩
  go_wp2
  rw [← hwl]
  rw [← hwl] at K46 BS46 Q46 BT46 KB46
  clear qBS0 qBS1 qBT0 qBT1
  have HWL := Lib.hid hwl
  clear hwl
  go_loopw [16] (fun i wr => ∃ k : Nat, k ≤ m ∧ i = .int .i64 (k : Int) ∧ wr = wl) (fun i _ => m - (intOf i).toNat)
  case atStart => exact ⟨0, Nat.zero_le _, rfl, rfl⟩
  case round =>
    obtain ⟨i, hi, rfl, rfl⟩ := hrel
    have g1 : wr.cell? ⟨w43.heap.size, 1, none⟩ = some (.slice A1 n e1) := BS46.out.c1
    have g2 : wr.cell? ⟨w45.heap.size, 1, none⟩ = some (.slice A2 m e2) := BT46.out.c1
    by_cases hlt : i < m
    · have hQ : Pt wr A2 m e2 (vls a m) := by have h := Q46.out; unfold Kt at h; rw [HVP.out] at h; exact h
      obtain ⟨o2, f2, rfl, -, h2⟩ := hQ.at_ hlt
      have hv2 : (vls a m)[i]?.getD 0 = sv a (pt i) := by unfold vls; rw [Pl.tab_get, if_pos hlt]; rfl
      rw [hv2] at h2
      have hne := sv_ne SA.out.el (k := i) (by omega)
      obtain ⟨v, hv⟩ : ∃ v, v = sv a (pt i) := ⟨_, rfl⟩
      rw [← hv] at h2 hne
      have hb : ((v : Int) == 0) = false := by rw [beq_eq_false_iff_ne]; omega
      have hb2 : ¬ (v : Int) = 0 := by omega
      have q0 : (0 : Int) ≤ (i : Int) := by omega
      have q1 : (i : Int) < (m : Int) := by omega
      clear hQ hv2 hv hne
      go_wp2
      go_roundw
      case rel => exact ⟨i + 1, hlt, by go_num, by first | rfl | trivial⟩
      case measure => simp [intOf]; omega
    · have him : i = m := by omega
      subst him
      have r2 := slice_head 25 (by kernel_rfl) (fun W => by kernel_rfl) A2 i e2 n (by have h := Q46.out.2.2.1; omega)
      have hQ2 : Nv wr.drew (.slice A2 n e2) (vls a n) 40 := by
        have h : Pt wr A2 i e2 (vls a i) := by have h := Q46.out; unfold Kt at h; rw [HVP.out] at h; exact h
        refine ⟨A2, n, e2, rfl, ⟨(vls_len _ _).symm, ?_, by have := h.2.2.1; omega, h.2.2.2⟩, (vls_sm a n).big, by omega⟩
        have h2 := h.2.1.take n
        rw [vls_take a hnm] at h2
        exact h2
      have hK2 : Nv wr.drew (.slice A1 n e1) (vls a n) n := Kt.nv K46.out
      have hsm := same_v hK2 hQ2 (by omega) (by omega) rfl
      have HSM := Lib.hid hsm
      have HBW : Hid (Below w.heap.size w wr.drew) := Lib.hid (below_to_drew KB46.out)
      clear hQ2 hK2 hsm
      go_wp2
      refine wp_region_held_drew (S := (fun w' : World => w'.cell? ⟨w43.heap.size, 1, none⟩ = some (.slice A1 n e1) ∧ w'.cell? ⟨w45.heap.size, 1, none⟩ = some (.slice A2 i e2) ∧ (Instr.slice 25 (.slice A2 i e2) none (some (.int .i64 (n : Int))) none).run Try.prog w' = .ok (.slice A2 n e2) w')) (by kernel_rfl) ⟨g1, g2, r2 _⟩ (fun hHeld => ?_)
      try simp only [Act.put, List.getElem_toArray, List.getElem_cons_succ, List.getElem_cons_zero, List.setIfInBounds_toArray, List.set_cons_zero, List.set_cons_succ]
      refine wpAnyH_take (i := 0) (v := ?_) rfl (by kernel_rfl) (by kernel_rfl) (by kernel_rfl) (fun _ _ _ h => h) (Or.inl ⟨by rfl, ?_⟩) (by assumption) ?_
      rotate_left
      · (intro w hSw; (try dsimp only at hSw); obtain ⟨s0, s1, s2⟩ := hSw; go_simp; try (with_reducible rfl))
      try simp only [Act.put, List.getElem_toArray, List.getElem_cons_zero, List.setIfInBounds_toArray, List.set_cons_zero, List.set_cons_succ]
      refine wpAnyH_take (i := 1) (v := ?_) rfl (by kernel_rfl) (by kernel_rfl) (by kernel_rfl) (fun _ _ _ h => h) (Or.inl ⟨by rfl, ?_⟩) (by assumption) ?_
      rotate_left
      · (intro w hSw; (try dsimp only at hSw); obtain ⟨s0, s1, s2⟩ := hSw; go_simp; try (with_reducible rfl))
      try simp only [Act.put, List.getElem_toArray, List.getElem_cons_succ, List.getElem_cons_zero, List.setIfInBounds_toArray, List.set_cons_zero, List.set_cons_succ]
      refine wpAnyH_take (i := 2) (v := ?_) rfl (by kernel_rfl) (by kernel_rfl) (by kernel_rfl) (fun _ _ _ h => h) (Or.inl ⟨by rfl, ?_⟩) (by assumption) ?_
      rotate_left
      · (intro w hSw; (try dsimp only at hSw); obtain ⟨s0, s1, s2⟩ := hSw; go_simp; try (with_reducible rfl))
      try simp only [Act.put, List.getElem_toArray, List.getElem_cons_succ, List.getElem_cons_zero, List.setIfInBounds_toArray, List.set_cons_zero, List.set_cons_succ]
      refine wpAnyH_take (i := 3) (v := ?_) rfl (by kernel_rfl) (by kernel_rfl) (by kernel_rfl) (fun _ _ _ h => h) (Or.inl ⟨by rfl, ?_⟩) (by assumption) ?_
      rotate_left
      · (intro w hSw; (try dsimp only at hSw); obtain ⟨s0, s1, s2⟩ := hSw; go_simp; try (with_reducible rfl))
      try simp only [Act.put, List.getElem_toArray, List.getElem_cons_succ, List.getElem_cons_zero, List.setIfInBounds_toArray, List.set_cons_zero, List.set_cons_succ]
      refine wpAnyH_take (i := 4) (v := ?_) rfl (by kernel_rfl) (by kernel_rfl) (by kernel_rfl) (fun _ _ _ h => h) (Or.inl ⟨by rfl, ?_⟩) (by assumption) ?_
      rotate_left
      · (intro w hSw; (try dsimp only at hSw); obtain ⟨s0, s1, s2⟩ := hSw; go_simp; try (with_reducible rfl))
      try simp only [Act.put, List.getElem_toArray, List.getElem_cons_succ, List.getElem_cons_zero, List.setIfInBounds_toArray, List.set_cons_zero, List.set_cons_succ]
      refine wpAnyH_take (i := 5) (v := ?_) rfl (by kernel_rfl) (by kernel_rfl) (by kernel_rfl) (fun _ _ _ h => h) (Or.inl ⟨by rfl, ?_⟩) (by assumption) ?_
      rotate_left
      · (intro w hSw; (try dsimp only at hSw); obtain ⟨s0, s1, s2⟩ := hSw; go_simp; try (with_reducible rfl))
      try simp only [Act.put, List.getElem_toArray, List.getElem_cons_succ, List.getElem_cons_zero, List.setIfInBounds_toArray, List.set_cons_zero, List.set_cons_succ]
      refine wpAnyH_ready (rs := [6]) (by kernel_rfl) (by simp) ?_
      refine AllReadyH.cons rfl (fun K hK => ?_) AllReadyH.nil
      go_simp
      refine HSM.out.mono ?_
      rintro e w20 ⟨rfl, hb20⟩
      have hbw20 := HBW.out.trans (hb20.mono HBW.out.size)
      have HB20 := Lib.hid hbw20
      have p1 : w20.cell? ⟨w43.heap.size, 1, none⟩ = some (.slice A1 n e1) := (hb20.cell (p := ⟨w43.heap.size, 1, none⟩) (World.block_lt_of_cell? _ _ g1)).trans g1
      have p2 : w20.cell? ⟨w45.heap.size, 1, none⟩ = some (.slice A2 i e2) := (hb20.cell (p := ⟨w45.heap.size, 1, none⟩) (World.block_lt_of_cell? _ _ g2)).trans g2
      clear hb20 hbw20
      try go_simp
      refine hK.out _ _ ⟨p1, p2, r2 _⟩ (fun hHeld1 => ?_)
      clear hK K
      try simp only [Act.put, List.getElem_toArray, List.getElem_cons_succ, List.getElem_cons_zero, List.setIfInBounds_toArray, List.set_cons_zero, List.set_cons_succ]
      refine wpAnyH_take (i := 7) (v := ?_) rfl (by kernel_rfl) (by kernel_rfl) (by kernel_rfl) (fun _ _ _ h => h) (Or.inl ⟨by rfl, ?_⟩) (by assumption) ?_
      rotate_left
      · (intro w hSw; (try dsimp only at hSw); obtain ⟨s0, s1, s2⟩ := hSw; go_simp; try (with_reducible rfl))
      try simp only [Act.put, List.getElem_toArray, List.getElem_cons_succ, List.getElem_cons_zero, List.setIfInBounds_toArray, List.set_cons_zero, List.set_cons_succ]
      refine wpAnyH_ready (rs := [8]) (by kernel_rfl) (by simp) ?_
      refine AllReadyH.cons rfl (fun K hK => ?_) AllReadyH.nil
      go_simp
      refine (lives_any _).mono ?_
      rintro e w21 ⟨rfl, hb21⟩
      have HB21 := Lib.hid (HB20.out.trans (hb21.mono HB20.out.size))
      have u1 := (hb21.cell (p := ⟨w43.heap.size, 1, none⟩) (World.block_lt_of_cell? _ _ p1)).trans p1
      have u2 := (hb21.cell (p := ⟨w45.heap.size, 1, none⟩) (World.block_lt_of_cell? _ _ p2)).trans p2
      clear hb21
      try go_simp
      refine hK.out _ _ ⟨u1, u2, r2 _⟩ (fun hHeld2 => ?_)
      clear hK K
      try simp only [Act.put, List.getElem_toArray, List.getElem_cons_succ, List.getElem_cons_zero, List.setIfInBounds_toArray, List.set_cons_zero, List.set_cons_succ]
      refine wpAnyH_take (i := 9) (v := ?_) rfl (by kernel_rfl) (by kernel_rfl) (by kernel_rfl) (fun _ _ _ h => h) (Or.inl ⟨by rfl, ?_⟩) (by assumption) ?_
      rotate_left
      · (intro w hSw; (try dsimp only at hSw); obtain ⟨s0, s1, s2⟩ := hSw; go_simp; try (with_reducible rfl))
      try simp only [Act.put, List.getElem_toArray, List.getElem_cons_succ, List.getElem_cons_zero, List.setIfInBounds_toArray, List.set_cons_zero, List.set_cons_succ]
      refine wpAnyH_take (i := 10) (v := ?_) rfl (by kernel_rfl) (by kernel_rfl) (by kernel_rfl) (fun _ _ _ h => h) (Or.inl ⟨by rfl, ?_⟩) (by assumption) ?_
      rotate_left
      · (intro w hSw; (try dsimp only at hSw); obtain ⟨s0, s1, s2⟩ := hSw; go_simp; try (with_reducible rfl))
      try simp only [Act.put, List.getElem_toArray, List.getElem_cons_succ, List.getElem_cons_zero, List.setIfInBounds_toArray, List.set_cons_zero, List.set_cons_succ]
      refine wpAnyH_done (by kernel_rfl) ?_ _
      clear hHeld hHeld1 hHeld2
      go_wp2
      go_ret
      exact ⟨rfl, HB21.out⟩

end Go.Proofs.Ytcbcmnbfflaicaa
