/-
  The chapter's answer on writing: the bytes of a name.
-/
import Derived.Test.YtkicjjcangkneaaGreatDoorRfw
import Derived.Deep.AppendLies
import Derived.Deep.RegionHeldLaw
namespace Go.Proofs.YtkicjjcangkneaaGreatDoor
open Go.RowKit
set_option maxRecDepth 100000
attribute [local go_sem ↓] Go.wp_at_zero Go.wp_at_succ

theorem Bys.form {w w' : World} {e : Ending} {l : List UInt8} (h : Bys w w' e l) (hl : 0 < l.length) : ∃ g c, e = .returned (.slice (some ⟨g, 0, none⟩) l.length c) ∧ w'.ownsRow w.heap.size 5 1 (.slice (some ⟨g, 0, none⟩) l.length c) l.length (u8s l) ∧ Below w.heap.size w w' := by
  obtain ⟨A, c, rfl, ho, hb⟩ := h
  obtain ⟨g, c', e, _⟩ := ho.form hl
  injection e with e1 e2 e3
  subst e1 e3
  exact ⟨g, c, rfl, ho, hb⟩
theorem own_src {w : World} {B g n c : Nat} {l : List UInt8} (h : w.ownsRow B 5 1 (.slice (some ⟨g, 0, none⟩) n c) n (u8s l)) : ∀ j u, (u8s l)[j]? = some u → w.cell? ((⟨g, 0, none⟩ : Addr).add j) = some u := h.cells rfl
theorem u8s_one_cell (l : List UInt8) : ∀ u ∈ u8s l, u.oneCell' = true := by
  intro u hu
  obtain ⟨x, _, rfl⟩ := List.mem_map.1 hu
  rfl
theorem own_more {w : World} {B B' n : Nat} {v : Value} {xs : List Value} (h : w.ownsRow B' 5 1 v n xs) (hB : B ≤ B') : w.ownsRow B 5 1 v n xs := by
  refine ⟨h.1, ?_⟩
  rcases h.2 with h0 | ⟨g, cap, cur, e, hg, h⟩
  · exact .inl h0
  · exact .inr ⟨g, cap, cur, e, Nat.le_trans hB hg, h⟩
theorem blk_kept2 {w w1 : World} {B t : Nat} {cs : Array Value} (h : Blk w B t cs) (hb : Below w.drew.heap.size w.drew w1) : Blk w1 B t cs := (show Blk w.drew B t cs from h).below hb h.lt
theorem blk_kept3 {w w1 : World} {B t : Nat} {cs : Array Value} (h : Blk w B t cs) (hb : Below w.heap.size w w1) : Blk w1 B t cs := h.below hb h.lt
theorem nInt_pos (n : Int) : 0 < (Pk.nInt n).length := Pk.num_pos _

theorem ident_two {B n1 n2 g1 k1 g2 k2 : Nat} {l1 l2 : List UInt8} {w W w1 w2 : World} (hb0 : Below B w W) (ho1 : w1.ownsRow W.drew.heap.size 5 1 (.slice (some ⟨g1, 0, none⟩) n1 k1) n1 (u8s l1)) (hbe1 : Below W.drew.heap.size W.drew w1)
    (ho2 : w2.ownsRow w1.heap.size 5 1 (.slice (some ⟨g2, 0, none⟩) n2 k2) n2 (u8s l2)) (hbe2 : Below w1.heap.size w1 w2) (hB : B ≤ w.heap.size) :
    w2.ownsRow B 5 1 (.slice (some ⟨g1, 0, none⟩) n1 k1) n1 (u8s l1) ∧ (∀ j u, (u8s l2)[j]? = some u → w2.cell? ((⟨g2, 0, none⟩ : Addr).add j) = some u) ∧ B ≤ w2.heap.size ∧ Below B w w2 := by
  have h1 : B ≤ W.heap.size := Nat.le_trans hB hb0.size
  have h2 : W.heap.size ≤ w1.heap.size := hbe1.size
  have h3 := hbe2.size
  refine ⟨own_below (own_more ho1 h1) hbe2, own_src ho2, by omega, ?_⟩
  exact (hb0.trans ((below_of_drew (n := B) (hbe1.mono h1)))).trans (hbe2.mono (by omega))

theorem ident_three {B n1 n2 g2 k2 : Nat} {v : Value} {xs : List Value} {l2 : List UInt8} {w w1 w2 : World} (ho1 : w1.ownsRow B 5 1 v n1 xs) (hb1 : Below B w w1) (ho2 : w2.ownsRow w1.heap.size 5 1 (.slice (some ⟨g2, 0, none⟩) n2 k2) n2 (u8s l2)) (hbe2 : Below w1.heap.size w1 w2) (hB : B ≤ w.heap.size) :
    w2.ownsRow B 5 1 v n1 xs ∧ (∀ j u, (u8s l2)[j]? = some u → w2.cell? ((⟨g2, 0, none⟩ : Addr).add j) = some u) ∧ B ≤ w2.heap.size ∧ Below B w w2 := by
  have h2 := hb1.size
  have h3 := hbe2.size
  exact ⟨own_below ho1 hbe2, own_src ho2, by omega, hb1.trans (hbe2.mono (by omega))⟩

set_option maxRecDepth 100000 in
set_option maxHeartbeats 1000000 in
theorem rwname_any (x : Pk.Nm) (w : World) (ha1 : -9223372036854775808 ≤ x.a) (ha2 : x.a ≤ 9223372036854775807) (hb1 : -9223372036854775808 ≤ x.b) (hb2 : x.b ≤ 9223372036854775807) (hc : x.c < 18446744073709551616) :
    Calls Tryz.prog 75 #[nmv x] w fun e w' => Bys w w' e (Pk.nName x) := by
  obtain ⟨i0, hi0, hz0, hz1, hz2⟩ := info_parts info_u8
  have HI := Lib.hid hi0
  have HZ0 := Lib.hid hz0
  have HZ1 := Lib.hid hz1
  have HZ2 := Lib.hid hz2
  obtain ⟨a, b, c⟩ := x
  have HA := Lib.hid (fun W : World => rwint_any a W ha1 ha2)
  have HB := Lib.hid (fun W : World => rwint_any b W hb1 hb2)
  have HC := Lib.hid (fun W : World => rwnum_any c W hc)
  have hl1 := Pk.nInt_len a ha1 ha2
  have hl2 := Pk.nInt_len b hb1 hb2
  have hl3 := Pk.num_len10 c hc
  have hp1 := nInt_pos a
  have hp2 := nInt_pos b
  have hp3 := Pk.num_pos c
  obtain ⟨la, hla⟩ : ∃ la, la = Pk.nInt a := ⟨_, rfl⟩
  obtain ⟨lb, hlb⟩ : ∃ lb, lb = Pk.nInt b := ⟨_, rfl⟩
  obtain ⟨lc, hlc⟩ : ∃ lc, lc = Pk.num c := ⟨_, rfl⟩
  obtain ⟨F, hF⟩ : ∃ F, F = Pk.nName ⟨a, b, c⟩ := ⟨_, rfl⟩
  rw [← hF]
  have hF2 : F = (la ++ lb) ++ lc := by rw [hF, hla, hlb, hlc]; rfl
  rw [← hla] at HA hl1 hp1
  rw [← hlb] at HB hl2 hp2
  rw [← hlc] at HC hl3 hp3
  have hX := blk_new w 27 #[.int .i64 a, .int .i64 b, .int .u64 (c : Nat)]
  have hb0 : Below w.heap.size w (w.alloc (.cells #[.int .i64 a, .int .i64 b, .int .u64 (c : Nat)] 27)) := (Below.refl _ w).alloc (Nat.le_refl _) _
  obtain ⟨B, hBe⟩ : ∃ B, B = w.heap.size := ⟨_, rfl⟩
  unfold Bys
  rw [← hBe] at hX hb0 ⊢
  have e0 : w.heap.size = B := hBe.symm
  have c0 : (w.alloc (.cells #[.int .i64 a, .int .i64 b, .int .u64 (c : Nat)] 27)).cell? ⟨B, 0, none⟩ = some (.int .i64 a) := hX.cell 0
  have c1 : (w.alloc (.cells #[.int .i64 a, .int .i64 b, .int .u64 (c : Nat)] 27)).cell? ⟨B, 1, none⟩ = some (.int .i64 b) := hX.cell 1
  have HX := Lib.hid hX
  have HB0 := Lib.hid hb0
  have HF := Lib.hid hF2
  have HBE := Lib.hid hBe
  clear ha1 ha2 hb1 hb2 hc hi0 hz0 hz1 hz2 hla hlb hlc hF hF2 hX hb0 hBe
  have HLB := Lib.hid (show (u8s lb).length = lb.length * 1 by rw [u8s_len, Nat.mul_one])
  have HSZ := Lib.hid (show la.length + lb.length ≤ maxLen ∧ (la.length + lb.length) * 1 ≤ 140737488355328 ∧ True from ⟨by unfold maxLen; omega, by omega, trivial⟩)
  have HLC := Lib.hid (show (u8s lc).length = lc.length * 1 by rw [u8s_len, Nat.mul_one])
  have HSZ2 := Lib.hid (show la.length + lb.length + lc.length ≤ maxLen ∧ (la.length + lb.length + lc.length) * 1 ≤ 140737488355328 ∧ True from ⟨by unfold maxLen; omega, by omega, trivial⟩)
  unfold nmv
  go_enter Tryz.func75, Tryz.ntmps75
  go_wp2_with fail
  go_region_held_law (fun w' : World => w'.cell? ⟨B, 0, none⟩ = some (.int .i64 a) ∧ w'.cell? ⟨B, 1, none⟩ = some (.int .i64 b))
    (first | exact ⟨c0, c1⟩ | exact ⟨s0, s1⟩ | exact ⟨t0, t1⟩ | exact ⟨u0, u1⟩)
    (first
      | (go_at_call 78; ((with_reducible refine (HA.out _).mono ?_); intro e w1 hby; obtain ⟨g1, k1, rfl, ho1, hbe1⟩ := hby.form hp1; have hX1 := blk_kept2 HX.out hbe1; have s0 : w1.cell? ⟨B, 0, none⟩ = some (.int .i64 a) := hX1.cell 0; have s1 : w1.cell? ⟨B, 1, none⟩ = some (.int .i64 b) := hX1.cell 1; have H1 := Lib.hid (And.intro hX1 (And.intro ho1 hbe1)); clear hX1 ho1 hbe1 hby))
      | (go_at_call 78; ((with_reducible refine (HB.out _).mono ?_); intro e w2 hby; obtain ⟨g2, k2, rfl, ho2, hbe2⟩ := hby.form hp2; have hX2 := blk_kept3 H1.out.1 hbe2; have t0 : w2.cell? ⟨B, 0, none⟩ = some (.int .i64 a) := hX2.cell 0; have t1 : w2.cell? ⟨B, 1, none⟩ = some (.int .i64 b) := hX2.cell 1; have H2 := Lib.hid (ident_two HB0.out H1.out.2.1 H1.out.2.2 ho2 hbe2 (Nat.le_of_eq HBE.out)); have HX2 := Lib.hid hX2; clear hX2 ho2 hbe2 hby))
      | (refine step_append_lies w2 rfl (.tmp 6) (.tmp 9) 28 rfl B 5 i0 (.int .u8 0) 1 1 Tryz.underlying28 HI.out HZ0.out HZ1.out HZ2.out rfl (by decide) (.slice (some ⟨g1, 0, none⟩) la.length k1) la.length (u8s la) rfl H2.out.1 ⟨g2, 0, none⟩ lb.length k2 (u8s lb) rfl HLB.out H2.out.2.1 (u8s_one_cell lb) hp2 HSZ.out.1 HSZ.out.2.1 H2.out.2.2.1 _ rfl ?_; intro g3 k3 w3 hown hgrow _ _; have hX3 := blk_grown HX2.out hgrow (fun e => row_type H2.out.1 e.symm HX2.out (by decide) rfl); have u0 : w3.cell? ⟨B, 0, none⟩ = some (.int .i64 a) := hX3.cell 0; have u1 : w3.cell? ⟨B, 1, none⟩ = some (.int .i64 b) := hX3.cell 1; have u2 : w3.cell? ⟨B, 2, none⟩ = some (.int .u64 (c : Nat)) := hX3.cell 2; have H3 := Lib.hid (And.intro hown (H2.out.2.2.2.grown hgrow H2.out.2.2.1 (fun j e => (H2.out.1.lt j e).1))); clear hown hgrow hX3))
  all_goals
    clear c0 c1 s0 s1 t0 t1
    go_wp2_with fail
    refine (HC.out _).mono ?_
    intro e w4 hby
    obtain ⟨g4, k4, rfl, ho4, hbe4⟩ := hby.form hp3
    have H4 := Lib.hid (ident_three H3.out.1 H3.out.2 ho4 hbe4 (Nat.le_of_eq HBE.out))
    clear ho4 hbe4 hby
    go_wp2_with (at_builtin; refine wpList_append_lies w4 rfl _ _ 28 rfl B 5 i0 (.int .u8 0) 1 1 Tryz.underlying28 HI.out HZ0.out HZ1.out HZ2.out rfl (by decide) (.slice (some ⟨g3, 0, none⟩) (la.length + lb.length) k3) (la.length + lb.length) (u8s la ++ u8s lb) rfl H4.out.1 ⟨g4, 0, none⟩ lc.length k4 (u8s lc) rfl HLC.out H4.out.2.1 (u8s_one_cell lc) hp3 HSZ2.out.1 HSZ2.out.2.1 H4.out.2.2.1 _ rfl ?_; intro g5 k5 w5 hown hgrow _ _; have H5 := Lib.hid (And.intro hown (H4.out.2.2.2.grown hgrow H4.out.2.2.1 (fun j e => (H4.out.1.lt j e).1))); clear hown hgrow)
    go_ret
    have hl : F.length = la.length + lb.length + lc.length := by rw [HF.out, List.length_append, List.length_append]
    rw [hl]
    refine ⟨_, _, rfl, ?_, H5.out.2⟩
    rw [HF.out, ou_u8s_app, ou_u8s_app]
    exact H5.out.1

end Go.Proofs.YtkicjjcangkneaaGreatDoor
