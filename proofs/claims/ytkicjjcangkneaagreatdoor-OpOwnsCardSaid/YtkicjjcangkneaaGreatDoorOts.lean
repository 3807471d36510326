/-
  Names in their row: the reference's Sorted. For up to 100 names.
-/
import Derived.Test.YtkicjjcangkneaaGreatDoorOtr
namespace Go.Proofs.YtkicjjcangkneaaGreatDoor
open Go.RowKit
attribute [local go_sem ↓] Go.wp_at_zero Go.wp_at_succ
set_option maxRecDepth 100000
namespace Ot
set_option maxHeartbeats 8000000 in
theorem sorted_any {w : World} (x : Ls Pk.Nm) (hx : Lz kNm No w x) (hb : x.l.length ≤ 100) :
    Calls Tryz.prog 36 #[x.v] w fun e w' => ∃ z : Ls Pk.Nm, e = .returned (.slice z.A z.l.length z.c) ∧ z.l.length = x.l.length ∧ Ins z.l x.l ∧ Gr kNm w.heap.size w' z ∧ Below w.heap.size w w' := by
  obtain ⟨xs, A, c⟩ := x
  obtain ⟨n, hn⟩ : ∃ n, n = xs.length := ⟨_, rfl⟩
  have hb : n ≤ 100 := by rw [hn]; exact hb
  obtain ⟨B, hB⟩ : ∃ B, B = w.heap.size := ⟨_, rfl⟩
  show Calls _ _ #[.slice A xs.length c] w fun e w' => ∃ z : Ls Pk.Nm, e = .returned (.slice z.A z.l.length z.c) ∧ z.l.length = xs.length ∧ Ins z.l xs ∧ Gr kNm w.heap.size w' z ∧ Below w.heap.size w w'
  rw [← hn, ← hB]
  have HN := Lib.hid hn
  have HA := Lib.hid hx
  have HB := Lib.hid hB
  clear hn hx hB
  go_enter Tryz.func36, Tryz.ntmps36
  go_wp2
  go_loopw [3, 4, 5, 6] (fun ov iv _ _ wr => ∃ (zs : List Pk.Nm) (zA : Option Addr) (zc i : Nat), ov = .slice zA i zc ∧ iv = .int .i64 (i : Int) ∧ i ≤ n ∧ zs.length = i ∧ Ins zs (xs.take i) ∧ Gr kNm B wr ⟨zs, zA, zc⟩ ∧ Below B w wr) (fun _ iv _ _ _ => n - (intOf iv).toNat)
  case atStart => exact ⟨[], none, 0, 0, rfl, rfl, Nat.zero_le _, rfl, by rw [List.take_zero]; exact Ins.nil, Gr.nil B w, Below.refl _ _⟩
  case round =>
    obtain ⟨zs, zA, zc, i, rfl, rfl, hin, hzl, hins, hgr, hbel⟩ := hrel
    have HINS := Lib.hid hins
    have HGR := Lib.hid hgr
    have HBEL := Lib.hid hbel
    have HZL := Lib.hid hzl
    have hcap : i ≤ zc := by have := (hgr.lz (F := No) (fun _ h => h.elim)).cap; have h2 : zs.length ≤ zc := this; omega
    by_cases hlt : i < n
    · obtain ⟨y, hy⟩ : ∃ y, xs[i]? = some y := ⟨_, List.getElem?_eq_getElem (by have := HN.out; omega)⟩
      have hxr := (HA.out.bf (from_below (lo := w.heap.size) (HB.out ▸ hbel) |>.weak (G := No) fun k hk hf => by have hf : w.heap.size ≤ k := hf; omega)).nm hy
      obtain ⟨b, off, rfl, hbb, _, c0, c1, c2⟩ := hxr
      have HY := Lib.hid hy
      have q0_ : (0 : Int) ≤ (i : Int) := by omega
      have q1_ : (i : Int) < (n : Int) := by omega
      clear hins hgr hbel hzl hy
      obtain ⟨wo, rfl⟩ : ∃ wo, wo = wr := ⟨_, rfl⟩
      go_wp2
      go_loopw [5] (fun kv w2 => ∃ k : Nat, kv = .int .i64 (k : Int) ∧ k ≤ i ∧ (∀ j x, k ≤ j → zs[j]? = some x → nmLess y x = true) ∧ Below wo.heap.size wo w2) (fun kv _ => (intOf kv).toNat)
      case atStart => exact ⟨i, rfl, Nat.le_refl _, fun j x hj hx => by have := (List.getElem?_eq_some_iff.1 hx).1; have := HZL.out; omega, Below.refl _ _⟩
      case round =>
        obtain ⟨k, rfl, hki, hhi, hb2⟩ := hrel
        have HHI := Lib.hid hhi
        have HB2 := Lib.hid hb2
        have c0 := (hb2.cell (p := ⟨b, off + i * 3, none⟩) hbb).trans c0
        have c1 := (hb2.cell (p := ⟨b, off + i * 3 + 1, none⟩) hbb).trans c1
        have c2 := (hb2.cell (p := ⟨b, off + i * 3 + 2, none⟩) hbb).trans c2
        by_cases hk0 : 0 < k
        · obtain ⟨p, hp⟩ : ∃ p, k = p + 1 := ⟨k - 1, by omega⟩
          obtain ⟨x1, hx1⟩ : ∃ x, zs[p]? = some x := ⟨_, List.getElem?_eq_getElem (by have := HZL.out; omega)⟩
          obtain ⟨b2, off2, hzA, hbb2, _, e0, e1, e2⟩ := ((HGR.out.bf (F := No) (Bf.below hb2) fun _ hf => hf.elim).lz (F := No) (fun _ h => h.elim)).nm hx1
          have hzA : zA = some ⟨b2, off2, none⟩ := hzA
          subst hzA
          have HX1 := Lib.hid hx1
          have q2_ : (k : Int) - 1 = (p : Int) := by omega
          have q3_ : IntKind.i64.wrap (p : Int) = (p : Int) := by rw [IntKind.wrap_i64]; omega
          have q4_ : (0 : Int) ≤ (p : Int) := by omega
          have q5_ : (p : Int) < (i : Int) := by omega
          have q6_ : decide ((0 : Int) < (k : Int)) = true := decide_eq_true (by omega)
          have q7_ : decide (0 < k) = true := decide_eq_true hk0
          have HPK := Lib.hid hp
          have hpi : p < i := by omega
          clear hhi hb2 hx1 hk0 hp
          go_wp2
          refine wp_region_held_drew (S := (fun w' : World => w'.cell? ⟨b, off + i * 3, none⟩ = some (.int .i64 y.a) ∧ w'.cell? ⟨b, off + i * 3 + 1, none⟩ = some (.int .i64 y.b) ∧ w'.cell? ⟨b, off + i * 3 + 2, none⟩ = some (.int .u64 (y.c : Int)) ∧ w'.cell? ⟨b2, off2 + p * 3, none⟩ = some (.int .i64 x1.a) ∧ w'.cell? ⟨b2, off2 + p * 3 + 1, none⟩ = some (.int .i64 x1.b) ∧ w'.cell? ⟨b2, off2 + p * 3 + 2, none⟩ = some (.int .u64 (x1.c : Int)))) (by kernel_rfl) ⟨c0, c1, c2, e0, e1, e2⟩ (fun hHeld => ?_)
          try simp only [Act.put, List.getElem_toArray, List.getElem_cons_succ, List.getElem_cons_zero, List.setIfInBounds_toArray, List.set_cons_zero, List.set_cons_succ]
          refine wpAnyH_take (i := 0) (v := ?_) rfl (by kernel_rfl) (by kernel_rfl) (by kernel_rfl) (fun _ _ _ h => h) (Or.inl ⟨by rfl, ?_⟩) (by assumption) ?_
          rotate_left
          · (intro w hSw; (try dsimp only at hSw); obtain ⟨t0, t1, t2, t3, t4, t5⟩ := hSw; go_simp; try (with_reducible rfl))
          try simp only [Act.put, List.getElem_toArray, List.getElem_cons_zero, List.setIfInBounds_toArray, List.set_cons_zero, List.set_cons_succ]
          refine wpAnyH_take (i := 1) (v := ?_) rfl (by kernel_rfl) (by kernel_rfl) (by kernel_rfl) (fun _ _ _ h => h) (Or.inl ⟨by rfl, ?_⟩) (by assumption) ?_
          rotate_left
          · (intro w hSw; (try dsimp only at hSw); obtain ⟨t0, t1, t2, t3, t4, t5⟩ := hSw; go_simp; try (with_reducible rfl))
          try simp only [Act.put, List.getElem_toArray, List.getElem_cons_succ, List.getElem_cons_zero, List.setIfInBounds_toArray, List.set_cons_zero, List.set_cons_succ]
          refine wpAnyH_take (i := 2) (v := ?_) rfl (by kernel_rfl) (by kernel_rfl) (by kernel_rfl) (fun _ _ _ h => h) (Or.inl ⟨by rfl, ?_⟩) (by assumption) ?_
          rotate_left
          · (intro w hSw; (try dsimp only at hSw); obtain ⟨t0, t1, t2, t3, t4, t5⟩ := hSw; go_simp; try (with_reducible rfl))
          try simp only [Act.put, List.getElem_toArray, List.getElem_cons_succ, List.getElem_cons_zero, List.setIfInBounds_toArray, List.set_cons_zero, List.set_cons_succ]
          refine wpAnyH_take (i := 3) (v := ?_) rfl (by kernel_rfl) (by kernel_rfl) (by kernel_rfl) (fun _ _ _ h => h) (Or.inl ⟨by rfl, ?_⟩) (by assumption) ?_
          rotate_left
          · (intro w hSw; (try dsimp only at hSw); obtain ⟨t0, t1, t2, t3, t4, t5⟩ := hSw; go_simp; try (with_reducible rfl))
          try simp only [Act.put, List.getElem_toArray, List.getElem_cons_succ, List.getElem_cons_zero, List.setIfInBounds_toArray, List.set_cons_zero, List.set_cons_succ]
          refine wpAnyH_take (i := 4) (v := ?_) rfl (by kernel_rfl) (by kernel_rfl) (by kernel_rfl) (fun _ _ _ h => h) (Or.inl ⟨by rfl, ?_⟩) (by assumption) ?_
          rotate_left
          · (intro w hSw; (try dsimp only at hSw); obtain ⟨t0, t1, t2, t3, t4, t5⟩ := hSw; go_simp; try (with_reducible rfl))
          try simp only [Act.put, List.getElem_toArray, List.getElem_cons_succ, List.getElem_cons_zero, List.setIfInBounds_toArray, List.set_cons_zero, List.set_cons_succ]
          refine wpAnyH_take (i := 5) (v := ?_) rfl (by kernel_rfl) (by kernel_rfl) (by kernel_rfl) (fun _ _ _ h => h) (Or.inl ⟨by rfl, ?_⟩) (by assumption) ?_
          rotate_left
          · (intro w hSw; (try dsimp only at hSw); obtain ⟨t0, t1, t2, t3, t4, t5⟩ := hSw; go_simp; try (with_reducible rfl))
          try simp only [Act.put, List.getElem_toArray, List.getElem_cons_succ, List.getElem_cons_zero, List.setIfInBounds_toArray, List.set_cons_zero, List.set_cons_succ]
          refine wpAnyH_take (i := 6) (v := ?_) rfl (by kernel_rfl) (by kernel_rfl) (by kernel_rfl) (fun _ _ _ h => h) (Or.inl ⟨by rfl, ?_⟩) (by assumption) ?_
          rotate_left
          · (intro w hSw; (try dsimp only at hSw); obtain ⟨t0, t1, t2, t3, t4, t5⟩ := hSw; go_simp; try (with_reducible rfl))
          try simp only [Act.put, List.getElem_toArray, List.getElem_cons_succ, List.getElem_cons_zero, List.setIfInBounds_toArray, List.set_cons_zero, List.set_cons_succ]
          refine wpAnyH_take (i := 7) (v := ?_) rfl (by kernel_rfl) (by kernel_rfl) (by kernel_rfl) (fun _ _ _ h => h) (Or.inl ⟨by rfl, ?_⟩) (by assumption) ?_
          rotate_left
          · (intro w hSw; (try dsimp only at hSw); obtain ⟨t0, t1, t2, t3, t4, t5⟩ := hSw; go_simp; try (with_reducible rfl))
          try simp only [Act.put, List.getElem_toArray, List.getElem_cons_succ, List.getElem_cons_zero, List.setIfInBounds_toArray, List.set_cons_zero, List.set_cons_succ]
          refine wpAnyH_take (i := 8) (v := ?_) rfl (by kernel_rfl) (by kernel_rfl) (by kernel_rfl) (fun _ _ _ h => h) (Or.inl ⟨by rfl, ?_⟩) (by assumption) ?_
          rotate_left
          · (intro w hSw; (try dsimp only at hSw); obtain ⟨t0, t1, t2, t3, t4, t5⟩ := hSw; go_simp; try (with_reducible rfl))
          try simp only [Act.put, List.getElem_toArray, List.getElem_cons_succ, List.getElem_cons_zero, List.setIfInBounds_toArray, List.set_cons_zero, List.set_cons_succ]
          refine wpAnyH_ready (rs := [9]) (by kernel_rfl) (by simp) ?_
          refine AllReadyH.cons rfl (fun K hK => ?_) AllReadyH.nil
          go_simp
          refine (rless_any y x1 _).mono ?_
          rintro e w3 ⟨rfl, hb3⟩
          have hb3 := below_of_drew hb3
          have HB3 := Lib.hid (HB2.out.trans (hb3.mono HB2.out.size))
          have f0 := (hb3.cell (p := ⟨b, off + i * 3, none⟩) (Nat.lt_of_lt_of_le hbb HB2.out.size)).trans c0
          have f1 := (hb3.cell (p := ⟨b, off + i * 3 + 1, none⟩) (Nat.lt_of_lt_of_le hbb HB2.out.size)).trans c1
          have f2 := (hb3.cell (p := ⟨b, off + i * 3 + 2, none⟩) (Nat.lt_of_lt_of_le hbb HB2.out.size)).trans c2
          have g0 := (hb3.cell (p := ⟨b2, off2 + p * 3, none⟩) hbb2).trans e0
          have g1 := (hb3.cell (p := ⟨b2, off2 + p * 3 + 1, none⟩) hbb2).trans e1
          have g2 := (hb3.cell (p := ⟨b2, off2 + p * 3 + 2, none⟩) hbb2).trans e2
          clear hb3
          obtain ⟨bl, hbl⟩ : ∃ bl, bl = nmLess y x1 := ⟨_, rfl⟩
          rw [← hbl]
          have HBL := Lib.hid hbl
          clear hbl
          try go_simp
          refine hK.out _ _ ⟨f0, f1, f2, g0, g1, g2⟩ (fun hHeld1 => ?_)
          clear hK K
          try simp only [Act.put, List.getElem_toArray, List.getElem_cons_succ, List.getElem_cons_zero, List.setIfInBounds_toArray, List.set_cons_zero, List.set_cons_succ]
          refine wpAnyH_take (i := 10) (v := ?_) rfl (by kernel_rfl) (by kernel_rfl) (by kernel_rfl) (fun _ _ _ h => h) (Or.inl ⟨by rfl, ?_⟩) (by assumption) ?_
          rotate_left
          · (intro w hSw; (try dsimp only at hSw); obtain ⟨t0, t1, t2, t3, t4, t5⟩ := hSw; go_simp; try (with_reducible rfl))
          try simp only [Act.put, List.getElem_toArray, List.getElem_cons_succ, List.getElem_cons_zero, List.setIfInBounds_toArray, List.set_cons_zero, List.set_cons_succ]
          refine wpAnyH_done (by kernel_rfl) ?_ _
          clear hHeld hHeld1 c0 c1 c2 e0 e1 e2 g0 g1 g2
          cases bl with
          | true =>
            have HLT := Lib.hid HBL.out.symm
            clear HBL f0 f1 f2
            go_wp2
            go_roundw
            case rel => exact ⟨p, by go_num, by omega, fun j x hj hx => by
              by_cases hjp : j = p
              · subst hjp
                rw [HX1.out] at hx
                injection hx with hx
                exact hx ▸ HLT.out
              · exact HHI.out j x (by have := HPK.out; omega) hx, HB3.out⟩
            case measure => have := HPK.out; simp [intOf]; omega
          | false =>
            have HLO := Lib.hid (show k = 0 ∨ ∃ x, zs[k - 1]? = some x ∧ nmLess y x = false from .inr ⟨x1, by rw [HPK.out]; exact HX1.out, HBL.out.symm⟩)
            clear HBL
            have hpre : Gr kNm B w3 ⟨zs, (some ⟨b2, off2, none⟩), zc⟩ := HGR.out.bf (F := No) (Bf.below HB3.out) fun _ hf => hf.elim
            have hzr := hpre.lz (F := No) (fun _ h => h.elim)
            obtain ⟨A1, d1, hs1, hl1⟩ := hzr.part (lo := 0) (hi := k) (Nat.zero_le _) (by have := HZL.out; show k ≤ zs.length; omega)
            obtain ⟨A2, d2, hs2, hl2⟩ := hzr.part (lo := k) (hi := i) hki (by have := HZL.out; show i ≤ zs.length; omega)
            have hr1 := fun W => (nm_till (A := (some ⟨b2, off2, none⟩)) (n := i) (c := zc) (hi := k) (by omega) W).trans (by rw [show sliced (some ⟨b2, off2, none⟩) 0 k zc 3 = .slice A1 (k - 0) d1 from hs1])
            have hr2 := fun W => (nm_from (A := (some ⟨b2, off2, none⟩)) (n := i) (c := zc) (lo := k) hki W).trans (by rw [show sliced (some ⟨b2, off2, none⟩) k i zc 3 = .slice A2 (i - k) d2 from hs2])
            rw [Nat.sub_zero] at hr1
            have HL1 := Lib.hid hl1
            have HL2 := Lib.hid hl2
            have HN1 := Lib.hid (Gr.nil (K := kNm) w3.heap.size w3)
            have HLN1 := Lib.hid (show ((zs.take k).drop 0).length = k by rw [List.length_drop, List.length_take]; have := HZL.out; omega)
            have HLN2 := Lib.hid (show ((zs.take i).drop k).length = i - k by rw [List.length_drop, List.length_take]; have := HZL.out; omega)
            clear hpre hzr hs1 hs2 hl1 hl2
            go_wp2_with (first | (at_builtin; refine wpList_push_ls ki_nm rfl _ _ rfl w3.heap.size Ls.nil ⟨(zs.take k).drop 0, A1, d1⟩ HN1.out rfl HL1.out (by show _ = Value.slice A1 ((zs.take k).drop 0).length d1; rw [HLN1.out]; rfl) (by show 0 + ((zs.take k).drop 0).length ≤ _; rw [HLN1.out]; omega) (Nat.le_refl _) ?_; intro z4 w4 hz4 hgr4 hbel4 _; have HZ4 := Lib.hid hz4; have HGR4 := Lib.hid hgr4; have HB4 := Lib.hid hbel4; have d0 := (hbel4.cell (p := ⟨b, off + i * 3, none⟩) (Nat.lt_of_lt_of_le hbb HB3.out.size)).trans f0; have d1_ := (hbel4.cell (p := ⟨b, off + i * 3 + 1, none⟩) (Nat.lt_of_lt_of_le hbb HB3.out.size)).trans f1; have d2_ := (hbel4.cell (p := ⟨b, off + i * 3 + 2, none⟩) (Nat.lt_of_lt_of_le hbb HB3.out.size)).trans f2; have HSRC := Lib.hid (show ∀ j u, (kNm.cells [y])[j]? = some u → (w4.alloc (.cells #[.int .i64 y.a, .int .i64 y.b, .int .u64 (y.c : Int)] 27)).cell? ((⟨w4.heap.size, 0, none⟩ : Addr).add j) = some u from fun j u hu => by rw [kNm.cells_one] at hu; exact cell_new w4 #[.int .i64 y.a, .int .i64 y.b, .int .u64 (y.c : Int)] 27 j u hu); have HGA := Lib.hid (hgr4.below ((Below.refl _ w4).alloc (Nat.le_refl _) (.cells #[.int .i64 y.a, .int .i64 y.b, .int .u64 (y.c : Int)] 27))); have HBA := Lib.hid (hbel4.alloc hbel4.size (.cells #[.int .i64 y.a, .int .i64 y.b, .int .u64 (y.c : Int)] 27)); clear hz4 hgr4 hbel4 f0 f1 f2) | (at_builtin; refine wpList_push ki_nm rfl _ _ rfl w3.heap.size z4 HGA.out rfl _ 1 1 [y] rfl rfl HSRC.out (by rw [HZ4.out]; show (([] : List Pk.Nm) ++ (zs.take k).drop 0).length + 1 ≤ _; rw [List.nil_append, HLN1.out]; omega) (by have := HBA.out.size; simpa using this) ?_; intro z5 w5 hz5 hgr5 hbel5 _; have HZ5 := Lib.hid hz5; have HGR5 := Lib.hid hgr5; have HB5 := Lib.hid (HBA.out.trans hbel5); clear hz5 hgr5 hbel5) | (at_builtin; refine wpList_push_ls ki_nm rfl _ _ rfl w3.heap.size z5 ⟨(zs.take i).drop k, A2, d2⟩ HGR5.out rfl (HL2.out.bf (Bf.below HB5.out)) (by show _ = Value.slice A2 ((zs.take i).drop k).length d2; rw [HLN2.out]; rfl) (by rw [HZ5.out, HZ4.out]; show (([] : List Pk.Nm) ++ (zs.take k).drop 0 ++ [y]).length + ((zs.take i).drop k).length ≤ _; rw [List.nil_append, List.length_append, HLN1.out, HLN2.out]; simp; omega) HB5.out.size ?_; intro z6 w6 hz6 hgr6 hbel6 _; have HZ6 := Lib.hid hz6; have HGR6 := Lib.hid hgr6; have HB6 := Lib.hid (HB5.out.trans hbel6); clear hz6 hgr6 hbel6))
            have hzz : z6.l = zs.take k ++ [y] ++ zs.drop k := by
              rw [HZ6.out, HZ5.out, HZ4.out]
              show ([] : List Pk.Nm) ++ (zs.take k).drop 0 ++ [y] ++ (zs.take i).drop k = _
              rw [List.nil_append, List.drop_zero, List.take_of_length_le (l := zs) (i := i) (by have := HZL.out; omega)]
            have HZZ := Lib.hid hzz
            have hlen6 : z6.l.length = i + 1 := by
              rw [hzz, List.length_append, List.length_append, List.length_take, List.length_drop, List.length_singleton]
              have := HZL.out
              omega
            have HLEN6 := Lib.hid hlen6
            clear hzz hlen6
            go_roundw
            case rel =>
              have hwo := HBEL.out.size
              refine ⟨z6.l, z6.A, z6.c, i + 1, by show Value.slice z6.A z6.l.length z6.c = _; rw [HLEN6.out], by go_num, hlt, HLEN6.out, ?_, ?_, ?_⟩
              · rw [HZZ.out]
                have hp := HINS.out.put (y := y) (k := k) (by have := HZL.out; omega) HHI.out HLO.out
                have hgi : xs.take (i + 1) = xs.take i ++ [y] := by
                  obtain ⟨h1, h2⟩ := List.getElem?_eq_some_iff.1 HY.out
                  rw [List.take_succ_eq_append_getElem h1, h2]
                rw [hgi]
                exact hp
              · exact HGR6.out.base (Nat.le_trans (by have := HB.out; omega) HB3.out.size)
              · have h7 : Below B wo w3 := HB3.out.mono (by have := HB.out; omega)
                have h8 : Below B w3 w6 := HB6.out.mono (Nat.le_trans (by have := HB.out; omega) HB3.out.size)
                exact HBEL.out.trans (h7.trans h8)
            case measure => simp [intOf]; omega
        · have hk00 : k = 0 := by omega
          have HLO := Lib.hid (show k = 0 ∨ ∃ x, zs[k - 1]? = some x ∧ nmLess y x = false from .inl hk00)
          have q6_ : decide ((0 : Int) < (k : Int)) = false := decide_eq_false (by omega)
          have q7_ : decide (0 < k) = false := decide_eq_false (by omega)
          clear hhi hb2 hk0 hk00
          have hpre : Gr kNm B wr ⟨zs, zA, zc⟩ := HGR.out.bf (F := No) (Bf.below HB2.out) fun _ hf => hf.elim
          have hzr := hpre.lz (F := No) (fun _ h => h.elim)
          obtain ⟨A1, d1, hs1, hl1⟩ := hzr.part (lo := 0) (hi := k) (Nat.zero_le _) (by have := HZL.out; show k ≤ zs.length; omega)
          obtain ⟨A2, d2, hs2, hl2⟩ := hzr.part (lo := k) (hi := i) hki (by have := HZL.out; show i ≤ zs.length; omega)
          have hr1 := fun W => (nm_till (A := zA) (n := i) (c := zc) (hi := k) (by omega) W).trans (by rw [show sliced zA 0 k zc 3 = .slice A1 (k - 0) d1 from hs1])
          have hr2 := fun W => (nm_from (A := zA) (n := i) (c := zc) (lo := k) hki W).trans (by rw [show sliced zA k i zc 3 = .slice A2 (i - k) d2 from hs2])
          rw [Nat.sub_zero] at hr1
          have HL1 := Lib.hid hl1
          have HL2 := Lib.hid hl2
          have HN1 := Lib.hid (Gr.nil (K := kNm) wr.heap.size wr)
          have HLN1 := Lib.hid (show ((zs.take k).drop 0).length = k by rw [List.length_drop, List.length_take]; have := HZL.out; omega)
          have HLN2 := Lib.hid (show ((zs.take i).drop k).length = i - k by rw [List.length_drop, List.length_take]; have := HZL.out; omega)
          clear hpre hzr hs1 hs2 hl1 hl2
          go_wp2_with (first | (at_builtin; refine wpList_push_ls ki_nm rfl _ _ rfl wr.heap.size Ls.nil ⟨(zs.take k).drop 0, A1, d1⟩ HN1.out rfl HL1.out (by show _ = Value.slice A1 ((zs.take k).drop 0).length d1; rw [HLN1.out]; rfl) (by show 0 + ((zs.take k).drop 0).length ≤ _; rw [HLN1.out]; omega) (Nat.le_refl _) ?_; intro z4 w4 hz4 hgr4 hbel4 _; have HZ4 := Lib.hid hz4; have HGR4 := Lib.hid hgr4; have HB4 := Lib.hid hbel4; have d0 := (hbel4.cell (p := ⟨b, off + i * 3, none⟩) (Nat.lt_of_lt_of_le hbb HB2.out.size)).trans c0; have d1_ := (hbel4.cell (p := ⟨b, off + i * 3 + 1, none⟩) (Nat.lt_of_lt_of_le hbb HB2.out.size)).trans c1; have d2_ := (hbel4.cell (p := ⟨b, off + i * 3 + 2, none⟩) (Nat.lt_of_lt_of_le hbb HB2.out.size)).trans c2; have HSRC := Lib.hid (show ∀ j u, (kNm.cells [y])[j]? = some u → (w4.alloc (.cells #[.int .i64 y.a, .int .i64 y.b, .int .u64 (y.c : Int)] 27)).cell? ((⟨w4.heap.size, 0, none⟩ : Addr).add j) = some u from fun j u hu => by rw [kNm.cells_one] at hu; exact cell_new w4 #[.int .i64 y.a, .int .i64 y.b, .int .u64 (y.c : Int)] 27 j u hu); have HGA := Lib.hid (hgr4.below ((Below.refl _ w4).alloc (Nat.le_refl _) (.cells #[.int .i64 y.a, .int .i64 y.b, .int .u64 (y.c : Int)] 27))); have HBA := Lib.hid (hbel4.alloc hbel4.size (.cells #[.int .i64 y.a, .int .i64 y.b, .int .u64 (y.c : Int)] 27)); clear hz4 hgr4 hbel4 c0 c1 c2) | (at_builtin; refine wpList_push ki_nm rfl _ _ rfl wr.heap.size z4 HGA.out rfl _ 1 1 [y] rfl rfl HSRC.out (by rw [HZ4.out]; show (([] : List Pk.Nm) ++ (zs.take k).drop 0).length + 1 ≤ _; rw [List.nil_append, HLN1.out]; omega) (by have := HBA.out.size; simpa using this) ?_; intro z5 w5 hz5 hgr5 hbel5 _; have HZ5 := Lib.hid hz5; have HGR5 := Lib.hid hgr5; have HB5 := Lib.hid (HBA.out.trans hbel5); clear hz5 hgr5 hbel5) | (at_builtin; refine wpList_push_ls ki_nm rfl _ _ rfl wr.heap.size z5 ⟨(zs.take i).drop k, A2, d2⟩ HGR5.out rfl (HL2.out.bf (Bf.below HB5.out)) (by show _ = Value.slice A2 ((zs.take i).drop k).length d2; rw [HLN2.out]; rfl) (by rw [HZ5.out, HZ4.out]; show (([] : List Pk.Nm) ++ (zs.take k).drop 0 ++ [y]).length + ((zs.take i).drop k).length ≤ _; rw [List.nil_append, List.length_append, HLN1.out, HLN2.out]; simp; omega) HB5.out.size ?_; intro z6 w6 hz6 hgr6 hbel6 _; have HZ6 := Lib.hid hz6; have HGR6 := Lib.hid hgr6; have HB6 := Lib.hid (HB5.out.trans hbel6); clear hz6 hgr6 hbel6))
          have hzz : z6.l = zs.take k ++ [y] ++ zs.drop k := by
            rw [HZ6.out, HZ5.out, HZ4.out]
            show ([] : List Pk.Nm) ++ (zs.take k).drop 0 ++ [y] ++ (zs.take i).drop k = _
            rw [List.nil_append, List.drop_zero, List.take_of_length_le (l := zs) (i := i) (by have := HZL.out; omega)]
          have HZZ := Lib.hid hzz
          have hlen6 : z6.l.length = i + 1 := by
            rw [hzz, List.length_append, List.length_append, List.length_take, List.length_drop, List.length_singleton]
            have := HZL.out
            omega
          have HLEN6 := Lib.hid hlen6
          clear hzz hlen6
          go_roundw
          case rel =>
            have hwo := HBEL.out.size
            refine ⟨z6.l, z6.A, z6.c, i + 1, by show Value.slice z6.A z6.l.length z6.c = _; rw [HLEN6.out], by go_num, hlt, HLEN6.out, ?_, ?_, ?_⟩
            · rw [HZZ.out]
              have hp := HINS.out.put (y := y) (k := k) (by have := HZL.out; omega) HHI.out HLO.out
              have hgi : xs.take (i + 1) = xs.take i ++ [y] := by
                obtain ⟨h1, h2⟩ := List.getElem?_eq_some_iff.1 HY.out
                rw [List.take_succ_eq_append_getElem h1, h2]
              rw [hgi]
              exact hp
            · exact HGR6.out.base (Nat.le_trans (by have := HB.out; omega) HB2.out.size)
            · have h7 : Below B wo wr := HB2.out.mono (by have := HB.out; omega)
              have h8 : Below B wr w6 := HB6.out.mono (Nat.le_trans (by have := HB.out; omega) HB2.out.size)
              exact HBEL.out.trans (h7.trans h8)
          case measure => simp [intOf]; omega
    · have hie : i = n := by omega
      have HF := Lib.hid (show Ins zs xs by
        have h := HINS.out
        rw [List.take_of_length_le (by have := HN.out; omega)] at h
        exact h)
      subst hie
      clear hins hgr hbel hzl
      go_wp2
      go_ret
      exact ⟨⟨zs, zA, zc⟩, by show _ = Ending.returned (.slice zA zs.length zc); rw [HZL.out]; rfl, HZL.out, HF.out, HGR.out, HBEL.out⟩
end Ot
end Go.Proofs.YtkicjjcangkneaaGreatDoor
