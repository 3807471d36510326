/-
  ShareFresh: shares of two secrets, added one by one, are shares of both together; those of 0 change no secret, and old ones beside new ones tell it no more, but where the change is nothing there.
-/
import Derived.Test.YthnbkbmhlalpaaaShm
import Derived.Deep.DeepCutAuto
namespace Go.Proofs.Ythnbkbmhlalpaaa
open Go.RowKit Go.Maps
attribute [local go_sem ↓] Go.wp_at_zero Go.wp_at_succ

theorem min4 (x y : Nat) (j : Nat) (hj : j = min (min x y) 4) (W : World) : (Builtin.min_ #[3, 3, 3] 3 #[.int .i64 (x : Int), .int .i64 (y : Int), .int .i64 4]).run Try.prog W = .ok (.int .i64 (j : Int)) W := by
  have e : (if (4 : Int) < (if (y : Int) < (x : Int) then (y : Int) else (x : Int)) then (4 : Int) else (if (y : Int) < (x : Int) then (y : Int) else (x : Int))) = (j : Int) := by
    split <;> split <;> omega
  simp only [Builtin.min_, Builtin.min2, List.foldlM, bind_pure]
  rw [← e]
  rfl

namespace Sr
/-- The first k shares of p. -/
noncomputable def row (p : Pl) (k : Nat) : List Shr := (List.range k).map fun i => ⟨i + 1, vl p (i + 1)⟩
theorem row_len (p : Pl) (k : Nat) : (row p k).length = k := by simp [row]
theorem row_succ (p : Pl) (k : Nat) : row p (k + 1) = row p k ++ [⟨k + 1, vl p (k + 1)⟩] := by simp [row, List.range_succ]
theorem row_at (p : Pl) (k : Nat) {i : Nat} (h : i < k) : (row p k)[i]? = some ⟨i + 1, vl p (i + 1)⟩ := by
  unfold row; rw [List.getElem?_map, List.getElem?_range h]; rfl
theorem row_row (p : Pl) (k : Nat) : Row p (row p k) := fun i hi => row_at p k (by rwa [row_len] at hi)
theorem row_small (p : Pl) {k : Nat} (h : k ≤ 1000000) : Sm64 (row p k) := fun s hs => by
  obtain ⟨i, hi, rfl⟩ := List.mem_map.1 hs
  have := List.mem_range.1 hi
  have := vl_lt p (i + 1)
  exact ⟨by show i + 1 < _; omega, by show vl p (i + 1) < _; omega⟩
theorem add_zero_num (a : Nat) : Fld.add (Fld.num a) (Fld.num 0) = Fld.num a := by
  have h := Fld.add_eq a 0
  have e : Fld.add (Fld.num a) (Fld.num 0) = Fld.num (Fld.num a + Fld.num 0) := rfl
  rw [e, h]; rfl
theorem add_nums (a b : Nat) : Fld.add (Fld.num a) (Fld.num b) = Fld.add a b := Fld.add_eq a b
/-- Two shares at one place, together. -/
theorem sum_at (k : Nat) (hk : k ≤ 1000) (v u : Nat) : sumS (k + 1) v (k + 1) u = (k + 1, Fld.add v u, 0) := by
  unfold sumS
  rw [if_pos rfl, num_small (by omega)]
end Sr
/-- Some of a list that can be read. -/
theorem some_w {A A2 : Option Addr} {n c m c2 most q : Nat} {l : List Shr} {is : List Int} {w : World} (hA : St w A n c l) (hI : Iz w A2 m is) (hn : n ≤ 1000) (hn0 : 0 < n) (hmost : most ≤ n) (hq : q = most) :
    Calls Try.prog 21 #[.slice A n c, .slice A2 m c2, .int .i64 (most : Int)] w fun e w' => (∃ B c' L, e = .returned (.slice B q c') ∧ St w' B q c' L ∧ Sr.Some l most L) ∧ Below w.heap.size w w' := by
  refine (some_any A A2 n c m c2 most _ is w hA hI hn hn0 (by omega)).mono ?_
  rintro e w' ⟨⟨z, L, rfl, hz, hL⟩, hb⟩
  obtain ⟨B, c', rfl, hst⟩ := hz.st fun s hs => hA.small s (hL.mem hs)
  have hl : L.length = q := by rw [hL.len, ← hA.len]; omega
  rw [hl] at hst ⊢
  exact ⟨⟨B, c', L, rfl, hst, hL⟩, hb⟩
/-- Shares behind shares, at a step of a drawn region. -/
theorem step_appS {ops : Array Oper} {o : Oper} {a : Act} {K : Act → World → Prop} {Q : Exit → Act → World → Prop} {E : Prop} {w : World} (hgd : o.guard = none) (s x : Operand)
    (ho : o.op = .call { callee := .builtin .append, args := #[s, x], argTypes := #[27, 27] }) (B : Nat) (L l2 : List Shr) (u : Value) (A2 : Option Addr) (q c2 : Nat) (hg : So B w u L) (hS : St w A2 q c2 l2) (h0 : A2 ≠ none) (hs : a.eval s = u) (hx : a.eval x = .slice A2 q c2)
    (hk : L.length + q ≤ 1000000000) (hB : B ≤ w.heap.size)
    (h : ∀ z w1, So B w1 z (L ++ l2) → Below B w w1 → K (a.put o.dst z) w1) : if Region.wanted o (yielded ops a.tmps) = true then Oper.wp Try.prog o a w K Q else E := by
  have hw : Region.wanted o (yielded ops a.tmps) = true := by simp [Region.wanted, hgd]
  rw [if_pos hw]
  obtain ⟨i0, hi, hz0, hz1, hz2⟩ := info_parts info_share
  obtain ⟨⟨A, c, rfl⟩, hrow⟩ := hg
  obtain ⟨ad, rfl⟩ := Option.ne_none_iff_exists'.1 h0
  refine wp_append_own w s x 27 ho B 33 i0 (.agg #[.int .u64 0, .int .u64 0]) 2 16 Try.underlying27 hi hz0 hz1 hz2 rfl (by decide) _ _ _ hs hrow ad q c2 (shs l2) hx (by rw [shs_len, hS.len]) ?_ (shs_one l2) (by unfold maxLen; omega) (by omega) hB ?_
  · intro j v hv
    have hj : j < (shs l2).length := (List.getElem?_eq_some_iff.1 hv).1
    rw [shs_len] at hj
    obtain ⟨b, off, e, _, hc⟩ := hS.rd (by omega)
    injection e with e
    subst e
    rw [Addr.add_lit]
    obtain ⟨t, ht⟩ : ∃ t, l2[j / 2]? = some t := ⟨l2[j / 2]'(by omega), List.getElem?_eq_getElem _⟩
    have h1 := hc _ t ht
    have h2 := shs_at l2 _ t ht
    rcases Nat.mod_two_eq_zero_or_one j with h3 | h3
    · have e : j / 2 * 2 = j := by omega
      rw [e] at h1 h2
      rw [hv] at h2
      rw [h1.1]
      exact h2.1.symm
    · have e : j / 2 * 2 + 1 = j := by omega
      rw [show off + j / 2 * 2 + 1 = off + j by omega] at h1
      rw [e, hv] at h2
      rw [h1.2]
      exact h2.2.symm
  · intro v' w1 hown hgrow _
    have hown2 : w1.ownsRow B 33 2 v' (L ++ l2).length (shs (L ++ l2)) := by
      rw [shs_app, List.length_append, ← hS.len]; exact hown
    obtain ⟨A', c', rfl⟩ : ∃ A' c', v' = .slice A' (L ++ l2).length c' := by
      rcases hown2.2 with ⟨rfl, h0⟩ | ⟨g, cp, _, rfl, _⟩
      · exact ⟨none, 0, by rw [h0]⟩
      · exact ⟨_, cp, rfl⟩
    exact h _ w1 ⟨⟨A', c', rfl⟩, hown2⟩ ((Below.refl B w).grown hgrow hB (fun j e => (hrow.lt j e).1))
theorem so_one (w : World) (a v : Nat) : So w.heap.size (w.alloc (.cells #[.int .u64 (a : Int), .int .u64 (v : Int)] 33)) (.slice (some ⟨w.heap.size, 0, none⟩) 1 1) [⟨a, v⟩] :=
  ⟨⟨_, 1, rfl⟩, rfl, .inr ⟨w.heap.size, 1, #[.int .u64 (a : Int), .int .u64 (v : Int)], rfl, Nat.le_refl _, blk_new w 33 #[.int .u64 (a : Int), .int .u64 (v : Int)], Nat.le_refl _, by unfold maxLen; omega, rfl, rfl⟩⟩

theorem sliced_ne {A A' : Option Addr} {lo hi c s q c' : Nat} (h : sliced A lo hi c s = .slice A' q c') (hA : A ≠ none) : A' ≠ none := by
  unfold sliced at h
  injection h with h1 _ _
  subst h1
  split
  · exact hA
  · cases A with
    | none => exact absurd rfl hA
    | some a => intro e; cases e
namespace Sr
theorem mixed_at (p : Pl) (n : Nat) (x : Shr) {j : Nat} (hj : j < n) (hn : n < 9) : ([x] ++ ((row p 9).take (n + 1)).drop 1)[j + 1]? = some ⟨j + 2, vl p (j + 2)⟩ := by
  rw [List.singleton_append, List.getElem?_cons_succ, List.getElem?_drop, List.getElem?_take, if_pos (by omega), Nat.add_comm 1 j, row_at p 9 (by omega)]
theorem mixed_len (p : Pl) (n : Nat) (x : Shr) (hn : n < 9) : ([x] ++ ((row p 9).take (n + 1)).drop 1).length = n + 1 := by
  rw [List.length_append, List.length_drop, List.length_take, row_len, List.length_singleton]
  omega
end Sr

set_option maxRecDepth 100000 in
set_option maxHeartbeats 16000000 in
theorem fresh_walk (a b n1 c1 n2 c2 m3 c3 : Nat) (A1 A2 A3 : Option Addr) (l l2 : List Nat) (is : List Int) (w : World) (ha : a < 18446744073709551616) (hb : b < 18446744073709551616) (hA1 : In w A1 n1 c1 l) (hA2 : In w A2 n2 c2 l2) (hI : Iz w A3 m3 is) :
    Calls Try.prog 8 #[.int .u64 (a : Int), .int .u64 (b : Int), .slice A1 n1 c1, .slice A2 n2 c2, .slice A3 m3 c3] w fun e w' => e = .returned (.bool true) ∧ Below w.heap.size w w' := by
  obtain ⟨n, hn⟩ : ∃ n, n = min (min n1 n2) 4 := ⟨_, rfl⟩
  have hmn := min4 n1 n2 n hn
  have hn4 : n ≤ 4 := by omega
  have hsl1 := slice_head 23 (by kernel_rfl) (fun W => by kernel_rfl) A1 n1 c1 n (by have := hA1.2.1; omega)
  have hsl2 := slice_head 23 (by kernel_rfl) (fun W => by kernel_rfl) A2 n2 c2 n (by have := hA2.2.1; omega)
  have N1 : Nv w (.slice A1 n c1) (l.take n) 1000 := ⟨A1, n, c1, rfl, ⟨by rw [List.length_take]; have := hA1.1; omega, hA1.2.2.2.1.take n, by have := hA1.2.1; omega, hA1.2.2.2.2⟩, fun y hy => hA1.2.2.1 y (List.mem_of_mem_take hy), by omega⟩
  have N2 : Nv w (.slice A2 n c2) (l2.take n) 1000 := ⟨A2, n, c2, rfl, ⟨by rw [List.length_take]; have := hA2.1; omega, hA2.2.2.2.1.take n, by have := hA2.2.1; omega, hA2.2.2.2.2⟩, fun y hy => hA2.2.2.1 y (List.mem_of_mem_take hy), by omega⟩
  have HN1 := Lib.hid N1
  have HN2 := Lib.hid N2
  have HI := Lib.hid hI
  have hl1 : (l.take n).length = n := by rw [List.length_take]; have := hA1.1; omega
  have hl2 : (l2.take n).length = n := by rw [List.length_take]; have := hA2.1; omega
  obtain ⟨fa, hfa⟩ : ∃ f, f = a :: l.take n := ⟨_, rfl⟩
  obtain ⟨fb, hfb⟩ : ∃ f, f = b :: l2.take n := ⟨_, rfl⟩
  obtain ⟨fz, hfz⟩ : ∃ f, f = 0 :: l2.take n := ⟨_, rfl⟩
  have HFA := Lib.hid hfa
  have HFB := Lib.hid hfb
  have HFZ := Lib.hid hfz
  have LA := Lib.hid (show Pl.Lt (Pl.co fa) (n + 1) from (Pl.Lt.co fa).mono (by rw [hfa, List.length_cons, hl1]; exact Nat.le_refl _))
  have LB := Lib.hid (show Pl.Lt (Pl.co fb) (n + 1) from (Pl.Lt.co fb).mono (by rw [hfb, List.length_cons, hl2]; exact Nat.le_refl _))
  have LZ := Lib.hid (show Pl.Lt (Pl.co fz) (n + 1) from (Pl.Lt.co fz).mono (by rw [hfz, List.length_cons, hl2]; exact Nat.le_refl _))
  have HLV := Lib.hid (fun W => lives9_any W)
  have HNUM := Lib.hid (fun W => num_any a W ha)
  have HAB := Lib.hid (fun W => add_any a b W ha hb)
  have q12 : (n : Int) ≤ (c1 : Int) := by have := hA1.2.1; omega
  have q22 : (n : Int) ≤ (c2 : Int) := by have := hA2.2.1; omega
  clear hA1 hA2 hI N1 N2 hl1 hl2 hn hfa hfb hfz
  go_enter Try.func8, Try.ntmps8
  go_wp2_with fail
  refine (split_v HFA.out HN1.out (by omega) ha (by omega : 9 ≤ 1000)).mono ?_
  rintro e w1 ⟨⟨Bx, cx, rfl, hx⟩, hb1⟩
  have HX1 := Lib.hid hx
  have HN21 := Lib.hid (HN2.out.below hb1)
  have HI1 := Lib.hid (HI.out.below hb1)
  have K1 := Lib.hid hb1
  clear hb1 hx HN1 HN2 HI
  go_wp2_with fail
  refine (split_v HFB.out HN21.out (by omega) hb (by omega : 9 ≤ 1000)).mono ?_
  rintro e w2 ⟨⟨By, cy, rfl, hy⟩, hb2⟩
  have HX2 := Lib.hid (HX1.out.below hb2)
  have HY2 := Lib.hid hy
  have HN22 := Lib.hid (HN21.out.below hb2)
  have HI2 := Lib.hid (HI1.out.below hb2)
  have K2 := Lib.hid (kept_trans K1.out hb2)
  clear hb2 hy HX1 HN21 HI1 K1
  go_wp2_with fail
  refine (split_v HFZ.out HN22.out (by omega) (by omega) (by omega : 9 ≤ 1000)).mono ?_
  rintro e w3 ⟨⟨Bz, cz, rfl, hz⟩, hb3⟩
  have HX3 := Lib.hid (HX2.out.below hb3)
  have HY3 := Lib.hid (HY2.out.below hb3)
  have HZ3 := Lib.hid hz
  have HI3 := Lib.hid (HI2.out.below hb3)
  have K3 := Lib.hid (kept_trans K2.out hb3)
  have hkk : Below w3.heap.size w3 w3 := Below.refl _ _
  clear hb3 hz HX2 HY2 HN22 HI2 K2
  go_wp2
  go_loopw [15, 16, 17] (fun o o2 i wr => ∃ k : Nat, i = .int .i64 (k : Int) ∧ k ≤ 9 ∧ So w3.heap.size wr o (Sr.row (Pl.co fa + Pl.co fb) k) ∧ So w3.heap.size wr o2 (Sr.row (Pl.co fa + Pl.co fz) k) ∧ Apart o o2 ∧ Below w3.heap.size w3 wr) (fun _ _ i _ => 9 - (intOf i).toNat)
  case atStart => exact ⟨0, rfl, Nat.zero_le _, So.nil _ _, So.nil _ _, Apart.none_left _, hkk⟩
  case round =>
    obtain ⟨k, rfl, hk, hso, hsf, hap, hb⟩ := hrel
    have HSO := Lib.hid hso
    have HSF := Lib.hid hsf
    have HAP := Lib.hid hap
    have HB := Lib.hid hb
    clear hkk hso hsf hap hb
    by_cases hlt : k < 9
    · obtain ⟨p, hp⟩ : ∃ p, p = k + 1 := ⟨_, rfl⟩
      have hsx := Sr.split_at fa 9 hlt
      have hsy := Sr.split_at fb 9 hlt
      have hsz := Sr.split_at fz 9 hlt
      rw [hv_vl, ← hp] at hsx hsy hsz
      have hrs := Sr.row_succ (Pl.co fa + Pl.co fb) k
      have hrf := Sr.row_succ (Pl.co fa + Pl.co fz) k
      rw [Sr.vl_add ⟨_, LA.out⟩ ⟨_, LB.out⟩, ← hp] at hrs
      rw [Sr.vl_add ⟨_, LA.out⟩ ⟨_, LZ.out⟩, ← hp] at hrf
      have l1 := vl_lt (Pl.co fa) p
      have l2 := vl_lt (Pl.co fb) p
      have l3 := vl_lt (Pl.co fz) p
      obtain ⟨vx, hvx⟩ : ∃ v, v = vl (Pl.co fa) p := ⟨_, rfl⟩
      obtain ⟨vy, hvy⟩ : ∃ v, v = vl (Pl.co fb) p := ⟨_, rfl⟩
      obtain ⟨vz, hvz⟩ : ∃ v, v = vl (Pl.co fz) p := ⟨_, rfl⟩
      rw [← hvx] at hsx hrs hrf l1
      rw [← hvy] at hsy hrs l2
      rw [← hvz] at hsz hrf l3
      obtain ⟨sv, hsv⟩ : ∃ v, v = Fld.add vx vy := ⟨_, rfl⟩
      obtain ⟨tv, htv⟩ : ∃ v, v = Fld.add vx vz := ⟨_, rfl⟩
      have hs1 : sumS p vx p vy = (p, sv, 0) := by rw [hp, Sr.sum_at k (by omega), hsv]
      have hs2 : sumS p vx p vz = (p, tv, 0) := by rw [hp, Sr.sum_at k (by omega), htv]
      rw [← hsv] at hrs
      rw [← htv] at hrf
      have hp64 : p < 18446744073709551616 := by omega
      have HADD : Hid (∀ W, Calls Try.prog 19 #[.agg #[.int .u64 (p : Int), .int .u64 (vx : Int)], .agg #[.int .u64 (p : Int), .int .u64 (vy : Int)]] W fun e w' => e = .returned (.tuple #[.agg #[.int .u64 (p : Int), .int .u64 (sv : Int)], .int .i64 0]) ∧ Below W.heap.size W w') := Lib.hid (fun W => sadd_any p vx p vy p sv 0 W hp64 (by omega) hp64 (by omega) hs1)
      have HADF : Hid (∀ W, Calls Try.prog 19 #[.agg #[.int .u64 (p : Int), .int .u64 (vx : Int)], .agg #[.int .u64 (p : Int), .int .u64 (vz : Int)]] W fun e w' => e = .returned (.tuple #[.agg #[.int .u64 (p : Int), .int .u64 (tv : Int)], .int .i64 0]) ∧ Below W.heap.size W w') := Lib.hid (fun W => sadd_any p vx p vz p tv 0 W hp64 (by omega) hp64 (by omega) hs2)
      have HRS := Lib.hid hrs
      have HRF := Lib.hid hrf
      have HPK := Lib.hid hp
      obtain ⟨bx, ox, rfl, hbx, -, x1, x2⟩ := HX3.out.spot hsx
      obtain ⟨by9, oy, rfl, hby, -, y1, y2⟩ := HY3.out.spot hsy
      obtain ⟨bz, oz, rfl, hbz9, -, z1, z2⟩ := HZ3.out.spot hsz
      have hx1 := (HB.out.cell (p := ⟨bx, ox + k * 2, none⟩) hbx).trans x1
      have hx2 := (HB.out.cell (p := ⟨bx, ox + k * 2 + 1, none⟩) hbx).trans x2
      have hy1 := (HB.out.cell (p := ⟨by9, oy + k * 2, none⟩) hby).trans y1
      have hy2 := (HB.out.cell (p := ⟨by9, oy + k * 2 + 1, none⟩) hby).trans y2
      have q0 := And.intro hx1 (And.intro hx2 (And.intro hy1 hy2))
      have HX1 := Lib.hid hx1
      have HX2 := Lib.hid hx2
      have HZ1 := Lib.hid ((HB.out.cell (p := ⟨bz, oz + k * 2, none⟩) hbz9).trans z1)
      have HZ2 := Lib.hid ((HB.out.cell (p := ⟨bz, oz + k * 2 + 1, none⟩) hbz9).trans z2)
      have hb_bx : bx < wr.heap.size := Nat.lt_of_lt_of_le hbx HB.out.size
      have hb_by : by9 < wr.heap.size := Nat.lt_of_lt_of_le hby HB.out.size
      have hb_bz : bz < wr.heap.size := Nat.lt_of_lt_of_le hbz9 HB.out.size
      have q1 : (k : Int) < 9 := by omega
      have q2 : (0 : Int) ≤ (k : Int) := by omega
      clear hsx hsy hsz hrs hrf hvx hvy hvz hsv htv hs1 hs2 hp x1 x2 y1 y2 z1 z2 hx1 hx2 hy1 hy2 l1 l2 l3
      go_wp2_with fail
      have q0d : wr.drew.cell? ⟨bx, ox + k * 2, none⟩ = some (.int .u64 (p : Int)) ∧ wr.drew.cell? ⟨bx, ox + k * 2 + 1, none⟩ = some (.int .u64 (vx : Int)) ∧ wr.drew.cell? ⟨by9, oy + k * 2, none⟩ = some (.int .u64 (p : Int)) ∧ wr.drew.cell? ⟨by9, oy + k * 2 + 1, none⟩ = some (.int .u64 (vy : Int)) := q0
      have qz : (wr.alloc (.cells #[.int .u64 0, .int .u64 0] 33)).cell? ⟨bx, ox + k * 2, none⟩ = some (.int .u64 (p : Int)) ∧ (wr.alloc (.cells #[.int .u64 0, .int .u64 0] 33)).cell? ⟨bx, ox + k * 2 + 1, none⟩ = some (.int .u64 (vx : Int)) ∧ (wr.alloc (.cells #[.int .u64 0, .int .u64 0] 33)).cell? ⟨by9, oy + k * 2, none⟩ = some (.int .u64 (p : Int)) ∧ (wr.alloc (.cells #[.int .u64 0, .int .u64 0] 33)).cell? ⟨by9, oy + k * 2 + 1, none⟩ = some (.int .u64 (vy : Int)) := ⟨cell_alloc_l (.cells #[.int .u64 0, .int .u64 0] 33) q0.1, cell_alloc_l (.cells #[.int .u64 0, .int .u64 0] 33) q0.2.1, cell_alloc_l (.cells #[.int .u64 0, .int .u64 0] 33) q0.2.2.1, cell_alloc_l (.cells #[.int .u64 0, .int .u64 0] 33) q0.2.2.2⟩
      have qzd : (wr.alloc (.cells #[.int .u64 0, .int .u64 0] 33)).drew.cell? ⟨bx, ox + k * 2, none⟩ = some (.int .u64 (p : Int)) ∧ (wr.alloc (.cells #[.int .u64 0, .int .u64 0] 33)).drew.cell? ⟨bx, ox + k * 2 + 1, none⟩ = some (.int .u64 (vx : Int)) ∧ (wr.alloc (.cells #[.int .u64 0, .int .u64 0] 33)).drew.cell? ⟨by9, oy + k * 2, none⟩ = some (.int .u64 (p : Int)) ∧ (wr.alloc (.cells #[.int .u64 0, .int .u64 0] 33)).drew.cell? ⟨by9, oy + k * 2 + 1, none⟩ = some (.int .u64 (vy : Int)) := qz
      have hz0 := blk_new wr 33 #[.int .u64 0, .int .u64 0]
      have hbz : Below wr.heap.size wr (wr.alloc (.cells #[.int .u64 0, .int .u64 0] 33)) := (Below.refl _ wr).alloc (Nat.le_refl _) _
      have hsz : wr.heap.size < (wr.alloc (.cells #[.int .u64 0, .int .u64 0] 33)).heap.size := by simp
      go_upto_region 12 with (fail)
      go_cut [18, 19] (fun p9 q9 wx => ∃ R : Nat, p9 = .pointer (some ⟨R, 0, none⟩) ∧ q9 = .int .i64 0 ∧ ∃ W : World, W = wx ∧ wr.heap.size ≤ R ∧ Blk W R 33 #[.int .u64 (p : Int), .int .u64 (sv : Int)] ∧ Below wr.heap.size wr W)
      case first =>
        go_region_held3 (fun w' : World => w'.cell? ⟨bx, ox + k * 2, none⟩ = some (.int .u64 (p : Int)) ∧ w'.cell? ⟨bx, ox + k * 2 + 1, none⟩ = some (.int .u64 (vx : Int)) ∧ w'.cell? ⟨by9, oy + k * 2, none⟩ = some (.int .u64 (p : Int)) ∧ w'.cell? ⟨by9, oy + k * 2 + 1, none⟩ = some (.int .u64 (vy : Int)))
          ((first | with_reducible exact q0 | with_reducible exact q0d | with_reducible exact qz | with_reducible exact qzd | with_reducible exact qA | with_reducible exact qB | with_reducible exact qBd | with_reducible exact qC | with_reducible exact qCd | with_reducible exact qD | with_reducible exact qDd))
          (first
            | (go_at_call 19; ((with_reducible refine (HADD.out _).mono ?_); rintro e9 w9 ⟨rfl, hb9'⟩; have hb9 : Below wr.heap.size wr w9 := below_of_drew hb9'; clear hb9'; have qA : w9.cell? ⟨bx, ox + k * 2, none⟩ = some (.int .u64 (p : Int)) ∧ w9.cell? ⟨bx, ox + k * 2 + 1, none⟩ = some (.int .u64 (vx : Int)) ∧ w9.cell? ⟨by9, oy + k * 2, none⟩ = some (.int .u64 (p : Int)) ∧ w9.cell? ⟨by9, oy + k * 2 + 1, none⟩ = some (.int .u64 (vy : Int)) := ⟨(hb9.cell (p := ⟨bx, ox + k * 2, none⟩) (by first | exact hb_bx | (rw [World.size_alloc]; exact Nat.lt_succ_of_lt hb_bx))).trans q0.1, (hb9.cell (p := ⟨bx, ox + k * 2 + 1, none⟩) (by first | exact hb_bx | (rw [World.size_alloc]; exact Nat.lt_succ_of_lt hb_bx))).trans q0.2.1, (hb9.cell (p := ⟨by9, oy + k * 2, none⟩) (by first | exact hb_by | (rw [World.size_alloc]; exact Nat.lt_succ_of_lt hb_by))).trans q0.2.2.1, (hb9.cell (p := ⟨by9, oy + k * 2 + 1, none⟩) (by first | exact hb_by | (rw [World.size_alloc]; exact Nat.lt_succ_of_lt hb_by))).trans q0.2.2.2⟩; have qB : (w9.alloc (.cells #[.int .u64 0, .int .u64 0] 33)).cell? ⟨bx, ox + k * 2, none⟩ = some (.int .u64 (p : Int)) ∧ (w9.alloc (.cells #[.int .u64 0, .int .u64 0] 33)).cell? ⟨bx, ox + k * 2 + 1, none⟩ = some (.int .u64 (vx : Int)) ∧ (w9.alloc (.cells #[.int .u64 0, .int .u64 0] 33)).cell? ⟨by9, oy + k * 2, none⟩ = some (.int .u64 (p : Int)) ∧ (w9.alloc (.cells #[.int .u64 0, .int .u64 0] 33)).cell? ⟨by9, oy + k * 2 + 1, none⟩ = some (.int .u64 (vy : Int)) := ⟨cell_alloc_l (.cells #[.int .u64 0, .int .u64 0] 33) qA.1, cell_alloc_l (.cells #[.int .u64 0, .int .u64 0] 33) qA.2.1, cell_alloc_l (.cells #[.int .u64 0, .int .u64 0] 33) qA.2.2.1, cell_alloc_l (.cells #[.int .u64 0, .int .u64 0] 33) qA.2.2.2⟩; have qBd : (w9.alloc (.cells #[.int .u64 0, .int .u64 0] 33)).drew.cell? ⟨bx, ox + k * 2, none⟩ = some (.int .u64 (p : Int)) ∧ (w9.alloc (.cells #[.int .u64 0, .int .u64 0] 33)).drew.cell? ⟨bx, ox + k * 2 + 1, none⟩ = some (.int .u64 (vx : Int)) ∧ (w9.alloc (.cells #[.int .u64 0, .int .u64 0] 33)).drew.cell? ⟨by9, oy + k * 2, none⟩ = some (.int .u64 (p : Int)) ∧ (w9.alloc (.cells #[.int .u64 0, .int .u64 0] 33)).drew.cell? ⟨by9, oy + k * 2 + 1, none⟩ = some (.int .u64 (vy : Int)) := qB; have qC : (w9.alloc (.cells #[.int .u64 (p : Int), .int .u64 (sv : Int)] 33)).cell? ⟨bx, ox + k * 2, none⟩ = some (.int .u64 (p : Int)) ∧ (w9.alloc (.cells #[.int .u64 (p : Int), .int .u64 (sv : Int)] 33)).cell? ⟨bx, ox + k * 2 + 1, none⟩ = some (.int .u64 (vx : Int)) ∧ (w9.alloc (.cells #[.int .u64 (p : Int), .int .u64 (sv : Int)] 33)).cell? ⟨by9, oy + k * 2, none⟩ = some (.int .u64 (p : Int)) ∧ (w9.alloc (.cells #[.int .u64 (p : Int), .int .u64 (sv : Int)] 33)).cell? ⟨by9, oy + k * 2 + 1, none⟩ = some (.int .u64 (vy : Int)) := ⟨cell_alloc_l (.cells #[.int .u64 (p : Int), .int .u64 (sv : Int)] 33) qA.1, cell_alloc_l (.cells #[.int .u64 (p : Int), .int .u64 (sv : Int)] 33) qA.2.1, cell_alloc_l (.cells #[.int .u64 (p : Int), .int .u64 (sv : Int)] 33) qA.2.2.1, cell_alloc_l (.cells #[.int .u64 (p : Int), .int .u64 (sv : Int)] 33) qA.2.2.2⟩; have qCd : (w9.alloc (.cells #[.int .u64 (p : Int), .int .u64 (sv : Int)] 33)).drew.cell? ⟨bx, ox + k * 2, none⟩ = some (.int .u64 (p : Int)) ∧ (w9.alloc (.cells #[.int .u64 (p : Int), .int .u64 (sv : Int)] 33)).drew.cell? ⟨bx, ox + k * 2 + 1, none⟩ = some (.int .u64 (vx : Int)) ∧ (w9.alloc (.cells #[.int .u64 (p : Int), .int .u64 (sv : Int)] 33)).drew.cell? ⟨by9, oy + k * 2, none⟩ = some (.int .u64 (p : Int)) ∧ (w9.alloc (.cells #[.int .u64 (p : Int), .int .u64 (sv : Int)] 33)).drew.cell? ⟨by9, oy + k * 2 + 1, none⟩ = some (.int .u64 (vy : Int)) := qC; have way1 : True := trivial))
            | (go_at_call 19; ((with_reducible refine (HADD.out _).mono ?_); rintro e9 w9 ⟨rfl, hb9'⟩; have hb9 : Below (wr.alloc (.cells #[.int .u64 0, .int .u64 0] 33)).heap.size (wr.alloc (.cells #[.int .u64 0, .int .u64 0] 33)) w9 := below_of_drew hb9'; clear hb9'; have qA : w9.cell? ⟨bx, ox + k * 2, none⟩ = some (.int .u64 (p : Int)) ∧ w9.cell? ⟨bx, ox + k * 2 + 1, none⟩ = some (.int .u64 (vx : Int)) ∧ w9.cell? ⟨by9, oy + k * 2, none⟩ = some (.int .u64 (p : Int)) ∧ w9.cell? ⟨by9, oy + k * 2 + 1, none⟩ = some (.int .u64 (vy : Int)) := ⟨(hb9.cell (p := ⟨bx, ox + k * 2, none⟩) (by first | exact hb_bx | (rw [World.size_alloc]; exact Nat.lt_succ_of_lt hb_bx))).trans qz.1, (hb9.cell (p := ⟨bx, ox + k * 2 + 1, none⟩) (by first | exact hb_bx | (rw [World.size_alloc]; exact Nat.lt_succ_of_lt hb_bx))).trans qz.2.1, (hb9.cell (p := ⟨by9, oy + k * 2, none⟩) (by first | exact hb_by | (rw [World.size_alloc]; exact Nat.lt_succ_of_lt hb_by))).trans qz.2.2.1, (hb9.cell (p := ⟨by9, oy + k * 2 + 1, none⟩) (by first | exact hb_by | (rw [World.size_alloc]; exact Nat.lt_succ_of_lt hb_by))).trans qz.2.2.2⟩; have hz9 := hz0.below hb9 hsz; have f0 := hz9.frozen 0; have f1 := hz9.frozen 1; have g0 := hz9.cell 0; have g1 := hz9.cell 1; have qD : ((w9.setCell ⟨wr.heap.size, 0, none⟩ (.int .u64 (p : Int))).setCell ⟨wr.heap.size, 1, none⟩ (.int .u64 (sv : Int))).cell? ⟨bx, ox + k * 2, none⟩ = some (.int .u64 (p : Int)) ∧ ((w9.setCell ⟨wr.heap.size, 0, none⟩ (.int .u64 (p : Int))).setCell ⟨wr.heap.size, 1, none⟩ (.int .u64 (sv : Int))).cell? ⟨bx, ox + k * 2 + 1, none⟩ = some (.int .u64 (vx : Int)) ∧ ((w9.setCell ⟨wr.heap.size, 0, none⟩ (.int .u64 (p : Int))).setCell ⟨wr.heap.size, 1, none⟩ (.int .u64 (sv : Int))).cell? ⟨by9, oy + k * 2, none⟩ = some (.int .u64 (p : Int)) ∧ ((w9.setCell ⟨wr.heap.size, 0, none⟩ (.int .u64 (p : Int))).setCell ⟨wr.heap.size, 1, none⟩ (.int .u64 (sv : Int))).cell? ⟨by9, oy + k * 2 + 1, none⟩ = some (.int .u64 (vy : Int)) := ⟨cell_set2 qA.1 (by omega) _ _, cell_set2 qA.2.1 (by omega) _ _, cell_set2 qA.2.2.1 (by omega) _ _, cell_set2 qA.2.2.2 (by omega) _ _⟩; have qDd : ((w9.setCell ⟨wr.heap.size, 0, none⟩ (.int .u64 (p : Int))).setCell ⟨wr.heap.size, 1, none⟩ (.int .u64 (sv : Int))).drew.cell? ⟨bx, ox + k * 2, none⟩ = some (.int .u64 (p : Int)) ∧ ((w9.setCell ⟨wr.heap.size, 0, none⟩ (.int .u64 (p : Int))).setCell ⟨wr.heap.size, 1, none⟩ (.int .u64 (sv : Int))).drew.cell? ⟨bx, ox + k * 2 + 1, none⟩ = some (.int .u64 (vx : Int)) ∧ ((w9.setCell ⟨wr.heap.size, 0, none⟩ (.int .u64 (p : Int))).setCell ⟨wr.heap.size, 1, none⟩ (.int .u64 (sv : Int))).drew.cell? ⟨by9, oy + k * 2, none⟩ = some (.int .u64 (p : Int)) ∧ ((w9.setCell ⟨wr.heap.size, 0, none⟩ (.int .u64 (p : Int))).setCell ⟨wr.heap.size, 1, none⟩ (.int .u64 (sv : Int))).drew.cell? ⟨by9, oy + k * 2 + 1, none⟩ = some (.int .u64 (vy : Int)) := qD; have way2 : True := trivial)))
        all_goals go_wp2_with fail
        all_goals go_meet
        all_goals first
          | exact ⟨_, rfl, rfl, _, rfl, hb9.size, blk_new w9 _ _, hb9.alloc hb9.size _⟩
          | exact ⟨_, rfl, rfl, _, rfl, Nat.le_refl _, blk_set2 hz9 _ _, (hbz.trans (hb9.mono (Nat.le_of_lt hsz))).trans (below_set2 (w := w9) (R := wr.heap.size) _ _ (Nat.le_refl _) (Nat.le_trans (Nat.le_of_lt hsz) hb9.size))⟩
          | exact ⟨_, rfl, rfl, _, rfl, hb9.size, blk_new w9 _ _, below_to_drew (hb9.alloc hb9.size _)⟩
          | exact ⟨_, rfl, rfl, _, rfl, Nat.le_refl _, blk_set2 hz9 _ _, below_to_drew ((hbz.trans (hb9.mono (Nat.le_of_lt hsz))).trans (below_set2 (w := w9) (R := wr.heap.size) _ _ (Nat.le_refl _) (Nat.le_trans (Nat.le_of_lt hsz) hb9.size)))⟩
      case rest =>
        obtain ⟨R12, rfl, rfl, W12, rfl, hR12, hV12, hW12⟩ := hcut
        clear q0d qz qzd hz0 hbz hsz
        have q9 := And.intro ((hW12.cell (p := ⟨bx, ox + k * 2, none⟩) hb_bx).trans HX1.out) (And.intro ((hW12.cell (p := ⟨bx, ox + k * 2 + 1, none⟩) hb_bx).trans HX2.out) (And.intro ((hW12.cell (p := ⟨bz, oz + k * 2, none⟩) hb_bz).trans HZ1.out) ((hW12.cell (p := ⟨bz, oz + k * 2 + 1, none⟩) hb_bz).trans HZ2.out)))
        have HW12 := Lib.hid hW12
        have HV12 := Lib.hid hV12
        have HR12 := Lib.hid hR12
        have hb9_bx : bx < W12.heap.size := Nat.lt_of_lt_of_le hb_bx hW12.size
        have hb9_bz : bz < W12.heap.size := Nat.lt_of_lt_of_le hb_bz hW12.size
        clear q0 hb_bx hb_by hb_bz hW12 hV12 hR12 HX1 HX2 HZ1 HZ2
        have q0 := q9
        have hb_bx := hb9_bx
        have hb_bz := hb9_bz
        clear q9 hb9_bx hb9_bz
        go_wp2_with fail
        have q0d : W12.drew.cell? ⟨bx, ox + k * 2, none⟩ = some (.int .u64 (p : Int)) ∧ W12.drew.cell? ⟨bx, ox + k * 2 + 1, none⟩ = some (.int .u64 (vx : Int)) ∧ W12.drew.cell? ⟨bz, oz + k * 2, none⟩ = some (.int .u64 (p : Int)) ∧ W12.drew.cell? ⟨bz, oz + k * 2 + 1, none⟩ = some (.int .u64 (vz : Int)) := q0
        have qz : (W12.alloc (.cells #[.int .u64 0, .int .u64 0] 33)).cell? ⟨bx, ox + k * 2, none⟩ = some (.int .u64 (p : Int)) ∧ (W12.alloc (.cells #[.int .u64 0, .int .u64 0] 33)).cell? ⟨bx, ox + k * 2 + 1, none⟩ = some (.int .u64 (vx : Int)) ∧ (W12.alloc (.cells #[.int .u64 0, .int .u64 0] 33)).cell? ⟨bz, oz + k * 2, none⟩ = some (.int .u64 (p : Int)) ∧ (W12.alloc (.cells #[.int .u64 0, .int .u64 0] 33)).cell? ⟨bz, oz + k * 2 + 1, none⟩ = some (.int .u64 (vz : Int)) := ⟨cell_alloc_l (.cells #[.int .u64 0, .int .u64 0] 33) q0.1, cell_alloc_l (.cells #[.int .u64 0, .int .u64 0] 33) q0.2.1, cell_alloc_l (.cells #[.int .u64 0, .int .u64 0] 33) q0.2.2.1, cell_alloc_l (.cells #[.int .u64 0, .int .u64 0] 33) q0.2.2.2⟩
        have qzd : (W12.alloc (.cells #[.int .u64 0, .int .u64 0] 33)).drew.cell? ⟨bx, ox + k * 2, none⟩ = some (.int .u64 (p : Int)) ∧ (W12.alloc (.cells #[.int .u64 0, .int .u64 0] 33)).drew.cell? ⟨bx, ox + k * 2 + 1, none⟩ = some (.int .u64 (vx : Int)) ∧ (W12.alloc (.cells #[.int .u64 0, .int .u64 0] 33)).drew.cell? ⟨bz, oz + k * 2, none⟩ = some (.int .u64 (p : Int)) ∧ (W12.alloc (.cells #[.int .u64 0, .int .u64 0] 33)).drew.cell? ⟨bz, oz + k * 2 + 1, none⟩ = some (.int .u64 (vz : Int)) := qz
        have hz0 := blk_new W12 33 #[.int .u64 0, .int .u64 0]
        have hbz : Below W12.heap.size W12 (W12.alloc (.cells #[.int .u64 0, .int .u64 0] 33)) := (Below.refl _ W12).alloc (Nat.le_refl _) _
        have hsz : W12.heap.size < (W12.alloc (.cells #[.int .u64 0, .int .u64 0] 33)).heap.size := by simp
        go_upto_region 13 with (fail)
        go_cut [20, 21] (fun p9 q9 wx => ∃ R : Nat, p9 = .pointer (some ⟨R, 0, none⟩) ∧ q9 = .int .i64 0 ∧ ∃ W : World, W = wx ∧ W12.heap.size ≤ R ∧ Blk W R 33 #[.int .u64 (p : Int), .int .u64 (tv : Int)] ∧ Below W12.heap.size W12 W)
        case first =>
          go_region_held3 (fun w' : World => w'.cell? ⟨bx, ox + k * 2, none⟩ = some (.int .u64 (p : Int)) ∧ w'.cell? ⟨bx, ox + k * 2 + 1, none⟩ = some (.int .u64 (vx : Int)) ∧ w'.cell? ⟨bz, oz + k * 2, none⟩ = some (.int .u64 (p : Int)) ∧ w'.cell? ⟨bz, oz + k * 2 + 1, none⟩ = some (.int .u64 (vz : Int)))
            ((first | with_reducible exact q0 | with_reducible exact q0d | with_reducible exact qz | with_reducible exact qzd | with_reducible exact qA | with_reducible exact qB | with_reducible exact qBd | with_reducible exact qC | with_reducible exact qCd | with_reducible exact qD | with_reducible exact qDd))
            (first
              | (go_at_call 19; ((with_reducible refine (HADF.out _).mono ?_); rintro e9 w9 ⟨rfl, hb9'⟩; have hb9 : Below W12.heap.size W12 w9 := below_of_drew hb9'; clear hb9'; have qA : w9.cell? ⟨bx, ox + k * 2, none⟩ = some (.int .u64 (p : Int)) ∧ w9.cell? ⟨bx, ox + k * 2 + 1, none⟩ = some (.int .u64 (vx : Int)) ∧ w9.cell? ⟨bz, oz + k * 2, none⟩ = some (.int .u64 (p : Int)) ∧ w9.cell? ⟨bz, oz + k * 2 + 1, none⟩ = some (.int .u64 (vz : Int)) := ⟨(hb9.cell (p := ⟨bx, ox + k * 2, none⟩) (by first | exact hb_bx | (rw [World.size_alloc]; exact Nat.lt_succ_of_lt hb_bx))).trans q0.1, (hb9.cell (p := ⟨bx, ox + k * 2 + 1, none⟩) (by first | exact hb_bx | (rw [World.size_alloc]; exact Nat.lt_succ_of_lt hb_bx))).trans q0.2.1, (hb9.cell (p := ⟨bz, oz + k * 2, none⟩) (by first | exact hb_bz | (rw [World.size_alloc]; exact Nat.lt_succ_of_lt hb_bz))).trans q0.2.2.1, (hb9.cell (p := ⟨bz, oz + k * 2 + 1, none⟩) (by first | exact hb_bz | (rw [World.size_alloc]; exact Nat.lt_succ_of_lt hb_bz))).trans q0.2.2.2⟩; have qB : (w9.alloc (.cells #[.int .u64 0, .int .u64 0] 33)).cell? ⟨bx, ox + k * 2, none⟩ = some (.int .u64 (p : Int)) ∧ (w9.alloc (.cells #[.int .u64 0, .int .u64 0] 33)).cell? ⟨bx, ox + k * 2 + 1, none⟩ = some (.int .u64 (vx : Int)) ∧ (w9.alloc (.cells #[.int .u64 0, .int .u64 0] 33)).cell? ⟨bz, oz + k * 2, none⟩ = some (.int .u64 (p : Int)) ∧ (w9.alloc (.cells #[.int .u64 0, .int .u64 0] 33)).cell? ⟨bz, oz + k * 2 + 1, none⟩ = some (.int .u64 (vz : Int)) := ⟨cell_alloc_l (.cells #[.int .u64 0, .int .u64 0] 33) qA.1, cell_alloc_l (.cells #[.int .u64 0, .int .u64 0] 33) qA.2.1, cell_alloc_l (.cells #[.int .u64 0, .int .u64 0] 33) qA.2.2.1, cell_alloc_l (.cells #[.int .u64 0, .int .u64 0] 33) qA.2.2.2⟩; have qBd : (w9.alloc (.cells #[.int .u64 0, .int .u64 0] 33)).drew.cell? ⟨bx, ox + k * 2, none⟩ = some (.int .u64 (p : Int)) ∧ (w9.alloc (.cells #[.int .u64 0, .int .u64 0] 33)).drew.cell? ⟨bx, ox + k * 2 + 1, none⟩ = some (.int .u64 (vx : Int)) ∧ (w9.alloc (.cells #[.int .u64 0, .int .u64 0] 33)).drew.cell? ⟨bz, oz + k * 2, none⟩ = some (.int .u64 (p : Int)) ∧ (w9.alloc (.cells #[.int .u64 0, .int .u64 0] 33)).drew.cell? ⟨bz, oz + k * 2 + 1, none⟩ = some (.int .u64 (vz : Int)) := qB; have qC : (w9.alloc (.cells #[.int .u64 (p : Int), .int .u64 (tv : Int)] 33)).cell? ⟨bx, ox + k * 2, none⟩ = some (.int .u64 (p : Int)) ∧ (w9.alloc (.cells #[.int .u64 (p : Int), .int .u64 (tv : Int)] 33)).cell? ⟨bx, ox + k * 2 + 1, none⟩ = some (.int .u64 (vx : Int)) ∧ (w9.alloc (.cells #[.int .u64 (p : Int), .int .u64 (tv : Int)] 33)).cell? ⟨bz, oz + k * 2, none⟩ = some (.int .u64 (p : Int)) ∧ (w9.alloc (.cells #[.int .u64 (p : Int), .int .u64 (tv : Int)] 33)).cell? ⟨bz, oz + k * 2 + 1, none⟩ = some (.int .u64 (vz : Int)) := ⟨cell_alloc_l (.cells #[.int .u64 (p : Int), .int .u64 (tv : Int)] 33) qA.1, cell_alloc_l (.cells #[.int .u64 (p : Int), .int .u64 (tv : Int)] 33) qA.2.1, cell_alloc_l (.cells #[.int .u64 (p : Int), .int .u64 (tv : Int)] 33) qA.2.2.1, cell_alloc_l (.cells #[.int .u64 (p : Int), .int .u64 (tv : Int)] 33) qA.2.2.2⟩; have qCd : (w9.alloc (.cells #[.int .u64 (p : Int), .int .u64 (tv : Int)] 33)).drew.cell? ⟨bx, ox + k * 2, none⟩ = some (.int .u64 (p : Int)) ∧ (w9.alloc (.cells #[.int .u64 (p : Int), .int .u64 (tv : Int)] 33)).drew.cell? ⟨bx, ox + k * 2 + 1, none⟩ = some (.int .u64 (vx : Int)) ∧ (w9.alloc (.cells #[.int .u64 (p : Int), .int .u64 (tv : Int)] 33)).drew.cell? ⟨bz, oz + k * 2, none⟩ = some (.int .u64 (p : Int)) ∧ (w9.alloc (.cells #[.int .u64 (p : Int), .int .u64 (tv : Int)] 33)).drew.cell? ⟨bz, oz + k * 2 + 1, none⟩ = some (.int .u64 (vz : Int)) := qC; have way1 : True := trivial))
              | (go_at_call 19; ((with_reducible refine (HADF.out _).mono ?_); rintro e9 w9 ⟨rfl, hb9'⟩; have hb9 : Below (W12.alloc (.cells #[.int .u64 0, .int .u64 0] 33)).heap.size (W12.alloc (.cells #[.int .u64 0, .int .u64 0] 33)) w9 := below_of_drew hb9'; clear hb9'; have qA : w9.cell? ⟨bx, ox + k * 2, none⟩ = some (.int .u64 (p : Int)) ∧ w9.cell? ⟨bx, ox + k * 2 + 1, none⟩ = some (.int .u64 (vx : Int)) ∧ w9.cell? ⟨bz, oz + k * 2, none⟩ = some (.int .u64 (p : Int)) ∧ w9.cell? ⟨bz, oz + k * 2 + 1, none⟩ = some (.int .u64 (vz : Int)) := ⟨(hb9.cell (p := ⟨bx, ox + k * 2, none⟩) (by first | exact hb_bx | (rw [World.size_alloc]; exact Nat.lt_succ_of_lt hb_bx))).trans qz.1, (hb9.cell (p := ⟨bx, ox + k * 2 + 1, none⟩) (by first | exact hb_bx | (rw [World.size_alloc]; exact Nat.lt_succ_of_lt hb_bx))).trans qz.2.1, (hb9.cell (p := ⟨bz, oz + k * 2, none⟩) (by first | exact hb_bz | (rw [World.size_alloc]; exact Nat.lt_succ_of_lt hb_bz))).trans qz.2.2.1, (hb9.cell (p := ⟨bz, oz + k * 2 + 1, none⟩) (by first | exact hb_bz | (rw [World.size_alloc]; exact Nat.lt_succ_of_lt hb_bz))).trans qz.2.2.2⟩; have hz9 := hz0.below hb9 hsz; have f0 := hz9.frozen 0; have f1 := hz9.frozen 1; have g0 := hz9.cell 0; have g1 := hz9.cell 1; have qD : ((w9.setCell ⟨W12.heap.size, 0, none⟩ (.int .u64 (p : Int))).setCell ⟨W12.heap.size, 1, none⟩ (.int .u64 (tv : Int))).cell? ⟨bx, ox + k * 2, none⟩ = some (.int .u64 (p : Int)) ∧ ((w9.setCell ⟨W12.heap.size, 0, none⟩ (.int .u64 (p : Int))).setCell ⟨W12.heap.size, 1, none⟩ (.int .u64 (tv : Int))).cell? ⟨bx, ox + k * 2 + 1, none⟩ = some (.int .u64 (vx : Int)) ∧ ((w9.setCell ⟨W12.heap.size, 0, none⟩ (.int .u64 (p : Int))).setCell ⟨W12.heap.size, 1, none⟩ (.int .u64 (tv : Int))).cell? ⟨bz, oz + k * 2, none⟩ = some (.int .u64 (p : Int)) ∧ ((w9.setCell ⟨W12.heap.size, 0, none⟩ (.int .u64 (p : Int))).setCell ⟨W12.heap.size, 1, none⟩ (.int .u64 (tv : Int))).cell? ⟨bz, oz + k * 2 + 1, none⟩ = some (.int .u64 (vz : Int)) := ⟨cell_set2 qA.1 (by omega) _ _, cell_set2 qA.2.1 (by omega) _ _, cell_set2 qA.2.2.1 (by omega) _ _, cell_set2 qA.2.2.2 (by omega) _ _⟩; have qDd : ((w9.setCell ⟨W12.heap.size, 0, none⟩ (.int .u64 (p : Int))).setCell ⟨W12.heap.size, 1, none⟩ (.int .u64 (tv : Int))).drew.cell? ⟨bx, ox + k * 2, none⟩ = some (.int .u64 (p : Int)) ∧ ((w9.setCell ⟨W12.heap.size, 0, none⟩ (.int .u64 (p : Int))).setCell ⟨W12.heap.size, 1, none⟩ (.int .u64 (tv : Int))).drew.cell? ⟨bx, ox + k * 2 + 1, none⟩ = some (.int .u64 (vx : Int)) ∧ ((w9.setCell ⟨W12.heap.size, 0, none⟩ (.int .u64 (p : Int))).setCell ⟨W12.heap.size, 1, none⟩ (.int .u64 (tv : Int))).drew.cell? ⟨bz, oz + k * 2, none⟩ = some (.int .u64 (p : Int)) ∧ ((w9.setCell ⟨W12.heap.size, 0, none⟩ (.int .u64 (p : Int))).setCell ⟨W12.heap.size, 1, none⟩ (.int .u64 (tv : Int))).drew.cell? ⟨bz, oz + k * 2 + 1, none⟩ = some (.int .u64 (vz : Int)) := qD; have way2 : True := trivial)))
          all_goals go_wp2_with fail
          all_goals go_meet
          all_goals first
            | exact ⟨_, rfl, rfl, _, rfl, hb9.size, blk_new w9 _ _, hb9.alloc hb9.size _⟩
            | exact ⟨_, rfl, rfl, _, rfl, Nat.le_refl _, blk_set2 hz9 _ _, (hbz.trans (hb9.mono (Nat.le_of_lt hsz))).trans (below_set2 (w := w9) (R := W12.heap.size) _ _ (Nat.le_refl _) (Nat.le_trans (Nat.le_of_lt hsz) hb9.size))⟩
            | exact ⟨_, rfl, rfl, _, rfl, hb9.size, blk_new w9 _ _, below_to_drew (hb9.alloc hb9.size _)⟩
            | exact ⟨_, rfl, rfl, _, rfl, Nat.le_refl _, blk_set2 hz9 _ _, below_to_drew ((hbz.trans (hb9.mono (Nat.le_of_lt hsz))).trans (below_set2 (w := w9) (R := W12.heap.size) _ _ (Nat.le_refl _) (Nat.le_trans (Nat.le_of_lt hsz) hb9.size)))⟩
        case rest =>
          obtain ⟨R13, rfl, rfl, W13, rfl, hR13, hV13, hW13⟩ := hcut
          clear q0d qz qzd hz0 hbz hsz
          obtain ⟨g1, g2⟩ := two_cells (HV12.out.below hW13 HV12.out.lt)
          obtain ⟨g3, g4⟩ := two_cells hV13
          have HSO3 := Lib.hid ((HSO.out.below HW12.out).below hW13)
          have HSF3 := Lib.hid ((HSF.out.below HW12.out).below hW13)
          have HB3 := Lib.hid (kept_trans HB.out (kept_trans HW12.out hW13))
          have hsz3 := HB3.out.size
          have HLS := Lib.hid (show (Sr.row (Pl.co fa + Pl.co fb) k).length ≤ 1000000000 by rw [Sr.row_len]; omega)
          have HLF := Lib.hid (show (Sr.row (Pl.co fa + Pl.co fz) k).length ≤ 1000000000 by rw [Sr.row_len]; omega)
          have HG3 := Lib.hid g3
          have HG4 := Lib.hid g4
          have HNE := Lib.hid (fun j (hj : some j = _) => HSO.out.lt j hj)
          have hR13' : wr.heap.size ≤ R13 := Nat.le_trans HW12.out.size hR13
          have tok1 : True := trivial
          clear q0 hb_bx hb_bz hW13 hV13 hR13 g3 g4 HSO HSF HB
          go_wp2_with (first
            | (at_builtin; have _t := tok1; refine wpList_pushS2 rfl _ _ rfl w3.heap.size p sv _ _ HSO3.out rfl rfl HLS.out hsz3 ?_; intro z1 w6 hz1 hgr1 hl1 hb1; have HZ1 := Lib.hid hz1; have HSF4 := Lib.hid (HSF3.out.kept hgr1 HAP.out.ne); have HAP2 := Lib.hid (HAP.out.lies hl1 HSF3.out.lt); have HBB := Lib.hid (HB3.out.trans hb1); have g5 := hgr1.cell HG3.out (fun e => by have h := HNE.out _ e; simp only at h; omega); have g6 := hgr1.cell HG4.out (fun e => by have h := HNE.out _ e; simp only at h; omega); have hsz4 := HBB.out.size; have tok2 : True := trivial; clear tok1 hz1 hgr1 hl1 hb1 hsz3 HSO3 HSF3 g1 g2)
            | (at_builtin; have _t := tok2; refine wpList_pushS2 rfl _ _ rfl w3.heap.size p tv _ _ HSF4.out rfl rfl HLF.out hsz4 ?_; intro z2 w7 hz2 hgr2 hl2 hb2; have HZ2 := Lib.hid hz2; have HZ3' := Lib.hid (HZ1.out.kept hgr2 HAP2.out.symm.ne); have HAP3 := Lib.hid (HAP2.out.symm.lies hl2 HZ1.out.lt).symm; have HBE := Lib.hid (HBB.out.trans hb2); clear tok2 hz2 hgr2 hl2 hb2 g5 g6))
          go_roundw
          case rel => exact ⟨k + 1, by go_num, hlt, by rw [← HPK.out, HRS.out]; exact HZ3'.out, by rw [← HPK.out, HRF.out]; exact HZ2.out, HAP3.out, HBE.out⟩
          case measure => simp [intOf]; omega
    · obtain rfl : k = 9 := by omega
      obtain ⟨Bb, cb, rfl, hbst⟩ := HSO.out.st (Sr.row_small _ (by omega))
      obtain ⟨Bf, cf, rfl, hfst⟩ := HSF.out.st (Sr.row_small _ (by omega))
      rw [Sr.row_len] at hbst hfst
      rw [Sr.row_len, Sr.row_len]
      have HBS := Lib.hid hbst
      have HFS := Lib.hid hfst
      have HX4 := Lib.hid (HX3.out.below HB.out)
      have HZ4 := Lib.hid (HZ3.out.below HB.out)
      have HI4 := Lib.hid (HI3.out.below HB.out)
      have K4 := Lib.hid (kept_trans K3.out HB.out)
      obtain ⟨p, hp⟩ : ∃ p, p = n + 1 := ⟨_, rfl⟩
      have hpi : (n : Int) + 1 = (p : Int) := by omega
      have HPN := Lib.hid hp
      have hp5 : p ≤ 5 := by omega
      have hp1 : 1 ≤ p := by omega
      clear hbst hfst HSO HSF HAP HB HX3 HY3 HZ3 HI3 K3 hp
      go_wp2_with fail
      refine (some_w (most := p) (q := p) HBS.out HI4.out (by omega) (by omega) (by omega) rfl).mono ?_
      rintro e w5 ⟨⟨B5, c5, L5, rfl, h5, hL5⟩, hb5⟩
      have hof5 := (Sr.row_row _ 9).some (by rw [Sr.row_len]; omega) hL5
      have ht5 : Sr.tell L5 0 = (Fld.add a b, 0) := by
        rw [hof5.tell (LA.out.add LB.out) (by rw [← h5.len, HPN.out]; exact Nat.le_refl _) (by intro e; have := h5.len; rw [e, List.length_nil] at this; omega) 0, Sr.vl_add ⟨_, LA.out⟩ ⟨_, LB.out⟩, HFA.out, HFB.out, Sr.vl_zero_at, Sr.vl_zero_at, Sr.add_nums]
      have HT5 := Lib.hid ht5
      have HL5 := Lib.hid h5
      have HFS5 := Lib.hid (HFS.out.below hb5)
      have HX5 := Lib.hid (HX4.out.below hb5)
      have HZ5 := Lib.hid (HZ4.out.below hb5)
      have HI5 := Lib.hid (HI4.out.below hb5)
      have K5 := Lib.hid (kept_trans K4.out hb5)
      clear h5 hL5 hb5 hof5 ht5 HBS HFS HX4 HZ4 HI4 K4
      obtain ⟨ab, hab⟩ : ∃ ab, ab = Fld.add a b := ⟨_, rfl⟩
      rw [← hab] at HT5 HAB
      clear hab
      go_wp2_with fail
      refine (join_any B5 p c5 ab 0 L5 w5 HL5.out (by omega) HT5.out).mono ?_
      rintro e w6 ⟨rfl, hb6⟩
      have HFS6 := Lib.hid (HFS5.out.below hb6)
      have HX6 := Lib.hid (HX5.out.below hb6)
      have HZ6 := Lib.hid (HZ5.out.below hb6)
      have HI6 := Lib.hid (HI5.out.below hb6)
      have K6 := Lib.hid (kept_trans K5.out hb6)
      clear hb6 HL5 HFS5 HX5 HZ5 HI5 K5
      go_wp2_with fail
      refine (some_w (most := p) (q := p) HFS6.out HI6.out (by omega) (by omega) (by omega) rfl).mono ?_
      rintro e w7 ⟨⟨B7, c7, L7, rfl, h7, hL7⟩, hb7⟩
      have hof7 := (Sr.row_row _ 9).some (by rw [Sr.row_len]; omega) hL7
      have ht7 : Sr.tell L7 0 = (Fld.num a, 0) := by
        rw [hof7.tell (LA.out.add LZ.out) (by rw [← h7.len, HPN.out]; exact Nat.le_refl _) (by intro e; have := h7.len; rw [e, List.length_nil] at this; omega) 0, Sr.vl_add ⟨_, LA.out⟩ ⟨_, LZ.out⟩, HFA.out, HFZ.out, Sr.vl_zero_at, Sr.vl_zero_at, Sr.add_zero_num]
      have HT7 := Lib.hid ht7
      have HL7 := Lib.hid h7
      have HFS7 := Lib.hid (HFS6.out.below hb7)
      have HX7 := Lib.hid (HX6.out.below hb7)
      have HZ7 := Lib.hid (HZ6.out.below hb7)
      have K7 := Lib.hid (kept_trans K6.out hb7)
      clear h7 hL7 hb7 hof7 ht7 HFS6 HX6 HZ6 HI6 K6
      obtain ⟨na, hna⟩ : ∃ na, na = Fld.num a := ⟨_, rfl⟩
      rw [← hna] at HT7 HNUM
      have HNA := Lib.hid hna
      clear hna
      go_wp2_with fail
      refine (join_any B7 p c7 na 0 L7 w7 HL7.out (by omega) HT7.out).mono ?_
      rintro e w8 ⟨rfl, hb8⟩
      have HFS8 := Lib.hid (HFS7.out.below hb8)
      have HX8 := Lib.hid (HX7.out.below hb8)
      have HZ8 := Lib.hid (HZ7.out.below hb8)
      have K8 := Lib.hid (kept_trans K7.out hb8)
      clear hb8 HL7 HFS7 HX7 HZ7 K7
      go_wp2_with (first
        | (go_at_call 24; ((with_reducible refine (HAB.out _).mono ?_); rintro e9 w9 ⟨rfl, rfl⟩))
        | (go_at_call 22; ((with_reducible refine (HNUM.out _).mono ?_); rintro e9 w9 ⟨rfl, rfl⟩)))
      have hs0 := Sr.split_at fa 9 (i := 0) (by omega)
      have hz0 := Sr.split_at fz 9 (i := 0) (by omega)
      rw [hv_vl] at hs0 hz0
      obtain ⟨x1, hx1⟩ : ∃ v, v = vl (Pl.co fa) (0 + 1) := ⟨_, rfl⟩
      obtain ⟨z1, hz1⟩ : ∃ v, v = vl (Pl.co fz) (0 + 1) := ⟨_, rfl⟩
      rw [← hx1] at hs0
      rw [← hz1] at hz0
      have hx1l : x1 < 18446744073709551616 := by have := vl_lt (Pl.co fa) (0 + 1); omega
      obtain ⟨bx, ox, rfl, hbx, -, g1, g2⟩ := HX8.out.spot hs0
      obtain ⟨bz, oz, rfl, hbz, -, g3, g4⟩ := HZ8.out.spot hz0
      obtain ⟨A5, c5, hsl, hst5⟩ := HFS8.out.part (lo := 1) (hi := p) (q := n) (by omega) (by omega) (by have := HPN.out; omega)
      have hBf : Bf ≠ none := by
        obtain ⟨bf, of, e, _⟩ := HFS8.out.spot (Sr.row_at (Pl.co fa + Pl.co fz) 9 (i := 0) (by omega))
        rw [e]; exact Option.some_ne_none _
      have hA5 := sliced_ne hsl hBf
      have hcf := HFS8.out.cap
      have hrun := fun W => (run_both (A := Bf) (n := 9) (c := cf) (lo := 1) (hi := p) (by omega) (by omega) W).trans (by rw [hsl])
      have hrun2 : ∀ W, (Instr.slice 27 (.slice Bf 9 cf) (some (.int .i64 1)) (some (.int .i64 (p : Int))) none).run Try.prog W = .ok (.slice A5 n c5) W := hrun
      have hwp2 : IntKind.i64.wrap (p : Int) = (p : Int) := by rw [IntKind.wrap_i64]; omega
      have k1 : w8.cell? ⟨bx, ox, none⟩ = some (.int .u64 1) := g1
      have k2 : w8.cell? ⟨bx, ox + 1, none⟩ = some (.int .u64 (x1 : Int)) := g2
      have q0 := And.intro k1 (And.intro k2 (hrun2 w8))
      have q0d : w8.drew.cell? ⟨bx, ox, none⟩ = some (.int .u64 1) ∧ w8.drew.cell? ⟨bx, ox + 1, none⟩ = some (.int .u64 (x1 : Int)) ∧ (Instr.slice 27 (.slice Bf 9 cf) (some (.int .i64 1)) (some (.int .i64 (p : Int))) none).run Try.prog w8.drew = .ok (.slice A5 n c5) w8.drew := And.intro k1 (And.intro k2 (hrun2 w8.drew))
      have q1d : (w8.alloc (.cells #[.int .u64 1, .int .u64 (x1 : Int)] 33)).drew.cell? ⟨bx, ox, none⟩ = some (.int .u64 1) ∧ (w8.alloc (.cells #[.int .u64 1, .int .u64 (x1 : Int)] 33)).drew.cell? ⟨bx, ox + 1, none⟩ = some (.int .u64 (x1 : Int)) ∧ (Instr.slice 27 (.slice Bf 9 cf) (some (.int .i64 1)) (some (.int .i64 (p : Int))) none).run Try.prog (w8.alloc (.cells #[.int .u64 1, .int .u64 (x1 : Int)] 33)).drew = .ok (.slice A5 n c5) (w8.alloc (.cells #[.int .u64 1, .int .u64 (x1 : Int)] 33)).drew := And.intro (cell_alloc_l _ k1) (And.intro (cell_alloc_l _ k2) (hrun2 _))
      have hso1 := so_one w8 1 x1
      have hbn : Below w8.heap.size w8 (w8.alloc (.cells #[.int .u64 1, .int .u64 (x1 : Int)] 33)) := (Below.refl _ _).alloc (Nat.le_refl _) _
      have HSO1 : Hid (So w8.heap.size (w8.alloc (.cells #[.int .u64 1, .int .u64 (x1 : Int)] 33)).drew (.slice (some ⟨w8.heap.size, 0, none⟩) 1 1) [⟨1, x1⟩]) := Lib.hid hso1
      have HST5 : Hid (St (w8.alloc (.cells #[.int .u64 1, .int .u64 (x1 : Int)] 33)).drew A5 n c5 (((Sr.row (Pl.co fa + Pl.co fz) 9).take p).drop 1)) := Lib.hid (hst5.below (below_to_drew hbn))
      have HA5 := Lib.hid hA5
      have HBN := Lib.hid hbn
      have hszn : w8.heap.size ≤ (w8.alloc (.cells #[.int .u64 1, .int .u64 (x1 : Int)] 33)).drew.heap.size := hbn.size
      have HG3 := Lib.hid g3
      have HG4 := Lib.hid g4
      have HX1 := Lib.hid hx1
      have HZ1 := Lib.hid hz1
      clear hs0 hz0 hx1 hz1 g1 g2 g3 g4 hsl hst5 hBf hA5 hrun hso1 hbn k1 k2 hcf HFS8 HX8 HZ8
      go_region_held3 (fun w' : World => w'.cell? ⟨bx, ox, none⟩ = some (.int .u64 1) ∧ w'.cell? ⟨bx, ox + 1, none⟩ = some (.int .u64 (x1 : Int)) ∧ (Instr.slice 27 (.slice Bf 9 cf) (some (.int .i64 1)) (some (.int .i64 (p : Int))) none).run Try.prog w' = .ok (.slice A5 n c5) w')
        ((first | with_reducible exact q0 | with_reducible exact q0d | with_reducible exact q1d | with_reducible exact q2d))
        (first
          | (refine step_appS rfl (.tmp 143) (.tmp 147) rfl w8.heap.size _ _ _ A5 n c5 HSO1.out HST5.out HA5.out rfl rfl (by simp; omega) hszn ?_; intro z9 w9 hz9 hb9; have HZ9 := Lib.hid hz9; have HB9 := Lib.hid (HBN.out.trans (below_of_drew hb9)); have q2d := And.intro (((HBN.out.trans (below_of_drew hb9)).cell (p := ⟨bx, ox, none⟩) hbx).trans q0.1) (And.intro (((HBN.out.trans (below_of_drew hb9)).cell (p := ⟨bx, ox + 1, none⟩) hbx).trans q0.2.1) (hrun2 w9)); clear hz9 hb9))
      have hml := Sr.mixed_len (Pl.co fa + Pl.co fz) n ⟨1, x1⟩ (by omega)
      have hmz := Sr.mixed_zero (s := Pl.co fa) (t := Pl.co fz) (n := n) (a := na) LA.out LZ.out (by rw [HFA.out, Sr.vl_zero_at, HNA.out]) (by rw [HFZ.out, Sr.vl_zero_at]; rfl) ([⟨1, x1⟩] ++ ((Sr.row (Pl.co fa + Pl.co fz) 9).take (n + 1)).drop 1) (by omega) hml (by rw [HX1.out]; rfl) (fun j hj => Sr.mixed_at _ n _ hj (by omega))
      rw [← HPN.out] at hml hmz
      have hsm9 : Sm64 ([⟨1, x1⟩] ++ ((Sr.row (Pl.co fa + Pl.co fz) 9).take p).drop 1) := fun s hs => by
        rcases List.mem_append.1 hs with h | h
        · rw [List.mem_singleton.1 h]; exact ⟨by show 1 < _; omega, hx1l⟩
        · exact Sr.row_small _ (by omega) s (List.mem_of_mem_take (List.mem_of_mem_drop h))
      obtain ⟨M, hM⟩ : ∃ M, M = [⟨1, x1⟩] ++ ((Sr.row (Pl.co fa + Pl.co fz) 9).take p).drop 1 := ⟨_, rfl⟩
      have hz9 := HZ9.out
      rw [← hM] at hml hmz hsm9 hz9
      obtain ⟨B9, c9, rfl, h9⟩ := hz9.st hsm9
      rw [hml] at h9 ⊢
      have hul := vl_lt (Sr.pol M) 0
      have htm := Sr.tell_good hmz.1 0
      obtain ⟨u, hu⟩ : ∃ u, u = vl (Sr.pol M) 0 := ⟨_, rfl⟩
      rw [← hu] at hul htm hmz
      obtain ⟨q, hq⟩ : ∃ q, q = decide (u = na) := ⟨_, rfl⟩
      have hqu : ((u : Int) == (na : Int)) = q := by
        rw [hq]
        by_cases h : u = na
        · rw [decide_eq_true h, beq_iff_eq]; omega
        · rw [decide_eq_false h, beq_eq_false_iff_ne]; omega
      have hqz : ((z1 : Int) == 0) = q := by
        have hzz : z1 = 0 ↔ u = na := by rw [HZ1.out]; exact hmz.2.symm
        rw [hq]
        by_cases h : u = na
        · rw [decide_eq_true h, beq_iff_eq]; have := hzz.2 h; omega
        · rw [decide_eq_false h, beq_eq_false_iff_ne]
          intro e
          exact h (hzz.1 (by omega))
      have HTM := Lib.hid htm
      have H9 := Lib.hid h9
      have HC4 : Hid (w9.cell? ⟨bz, oz + 1, none⟩ = some (.int .u64 (z1 : Int))) := Lib.hid ((HB9.out.cell (p := ⟨bz, oz + 1, none⟩) hbz).trans HG4.out)
      have hbz9 : bz < w9.heap.size := Nat.lt_of_lt_of_le hbz HB9.out.size
      have K9 := Lib.hid (kept_trans K8.out HB9.out)
      clear hml hmz hsm9 hM hz9 h9 htm hu hq hul hbz hbx HZ9 HB9 HG3 HG4 HX1 HZ1 HSO1 HST5 HA5 HBN hszn q0 q0d q1d q2d hrun2 K8 HT5 HT7 hwp2
      go_wp2_with fail
      refine (join_any B9 p c9 u 0 M w9 H9.out (by omega) HTM.out).mono ?_
      rintro e w10 ⟨rfl, hb10⟩
      have q0 := (hb10.cell (p := ⟨bz, oz + 1, none⟩) hbz9).trans HC4.out
      have q0d : w10.drew.cell? ⟨bz, oz + 1, none⟩ = some (.int .u64 (z1 : Int)) := q0
      have hbz10 : bz < w10.heap.size := Nat.lt_of_lt_of_le hbz9 hb10.size
      have K10 := Lib.hid (kept_trans K9.out hb10)
      clear hb10 hbz9 H9 HTM HC4 K9
      cases q with
      | true =>
        go_wp2_with fail
        go_region_held3 (fun w' : World => w'.cell? ⟨bz, oz + 1, none⟩ = some (.int .u64 (z1 : Int)))
          ((first | with_reducible exact q0 | with_reducible exact q0d | with_reducible exact q1d))
          (first
            | (go_at_call 22; ((with_reducible refine (HNUM.out _).mono ?_); rintro e9 w11 ⟨rfl, rfl⟩))
            | (go_at_call 15; ((with_reducible refine (HLV.out _).mono ?_); rintro e9 w11 ⟨rfl, hb11'⟩; have hb11 : Below w10.heap.size w10 w11 := below_of_drew hb11'; clear hb11'; have q1d := (hb11.cell (p := ⟨bz, oz + 1, none⟩) hbz10).trans q0)))
        all_goals go_wp2
        all_goals go_ret
        all_goals exact ⟨rfl, kept_trans K10.out hb11⟩
      | false =>
        go_wp2_with fail
        go_region_held3 (fun w' : World => w'.cell? ⟨bz, oz + 1, none⟩ = some (.int .u64 (z1 : Int)))
          ((first | with_reducible exact q0 | with_reducible exact q0d | with_reducible exact q1d))
          (first
            | (go_at_call 22; ((with_reducible refine (HNUM.out _).mono ?_); rintro e9 w11 ⟨rfl, rfl⟩))
            | (go_at_call 15; ((with_reducible refine (HLV.out _).mono ?_); rintro e9 w11 ⟨rfl, hb11'⟩; have hb11 : Below w10.heap.size w10 w11 := below_of_drew hb11'; clear hb11'; have q1d := (hb11.cell (p := ⟨bz, oz + 1, none⟩) hbz10).trans q0)))
        all_goals go_wp2
        all_goals go_ret
        all_goals exact ⟨rfl, kept_trans K10.out hb11⟩

end Go.Proofs.Ythnbkbmhlalpaaa
