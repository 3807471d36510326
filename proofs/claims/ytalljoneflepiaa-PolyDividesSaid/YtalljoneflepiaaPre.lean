/-
  Package poly's fold at withRoot, and Of: the product of x less each root, in memory of its own. For lists of numbers of 64 bits, up to a million of them.
-/
import Derived.Test.YtalljoneflepiaaPrd
namespace Go.Proofs.Ytalljoneflepiaa
open Go.RowKit Go.Shelf
attribute [local go_sem] Oper.semAt_some

namespace Pl
/-- The product of x less each root. -/
def prodR : List Nat → Pl
  | [] => C 1
  | r :: l => lin (Fld.to r) * prodR l
theorem Po.prodR : ∀ l, Po (prodR l)
  | [] => Po.C 1
  | _ :: l => (Po.lin _).mul (Po.prodR l)
end Pl

theorem below_grown {w w' : World} (h : Below w.heap.size w w') (row : Option Nat) : w.grownBy w' row := ⟨h.os, h.tape, h.output, h.size, fun k hk _ => h.block k hk⟩

set_option maxRecDepth 100000 in
set_option maxHeartbeats 2000000 in
theorem foldl_any (g0 la ca : Nat) (A : Option Addr) (a : List Nat) (w : World) (hg : Ar w g0 [1]) (hlab : la ≤ 1000000)
    (hn : la = a.length) (ha : ∀ y ∈ a, y < 18446744073709551616) (hA : Rd w.heap.size w A (u64s a)) :
    Calls Try.prog 59 #[.slice A la ca, .slice (some ⟨g0, 0, none⟩) 1 1, .func (.func 58) #[] #[]] w fun e w' =>
      (∃ g L, e = .returned (.slice (some ⟨g, 0, none⟩) (la + 1) (la + 1)) ∧ Ar w' g L ∧ L.length = la + 1 ∧ Pl.Sm L ∧ Pl.co L = Pl.prodR a ∧ (g = g0 ∨ w.heap.size ≤ g)) ∧ Below w.heap.size w w' := by
  have HG := Lib.hid hg
  have HN := Lib.hid hn
  have HAB := Lib.hid ha
  have HA := Lib.hid hA
  clear hg hn ha hA
  refine (callsIn_wide (n := 3)).1 ?_
  refine callsIn_of_wp_marks Try.func59 rfl trivial ?_ rfl
  simp only [Try.ntmps59, List.size_toArray, List.length_cons, List.length_nil, Nat.reduceAdd, Nat.reduceSub, Array.replicate_succ, Array.replicate_zero, List.push_toArray, List.append_toArray, List.nil_append, List.cons_append]
  gi_wp2_with (refine ⟨trivial, ?_⟩; gi_at_call 68; refine (back_call Fence.wide (3 - 1) trivial rfl _ _ _ _).mono ?_; rintro e w' ⟨rfl, rfl⟩)
  obtain ⟨B, hBe⟩ : ∃ B, B = w.heap.size := ⟨_, rfl⟩
  have hcm := cell_new_l w (.slice (some ⟨g0, 0, none⟩) 1 1) 22
  have hcs := cell_new_l (w.alloc (.cells #[.slice (some ⟨g0, 0, none⟩) 1 1] 22)) (.func (.func 58) #[] #[]) 40
  have hca := cell_new_l ((w.alloc (.cells #[.slice (some ⟨g0, 0, none⟩) 1 1] 22)).alloc (.cells #[.func (.func 58) #[] #[]] 40)) (.slice A la ca) 22
  have hcm3 := cell_alloc_l (.cells #[.slice A la ca] 22) (cell_alloc_l (.cells #[.func (.func 58) #[] #[]] 40) hcm.1)
  have hfm3 := frozen_alloc_l (.cells #[.slice A la ca] 22) (cell_alloc_l (.cells #[.func (.func 58) #[] #[]] 40) hcm.1) (frozen_alloc_l (.cells #[.func (.func 58) #[] #[]] 40) hcm.1 hcm.2)
  have hcs3 := cell_alloc_l (.cells #[.slice A la ca] 22) hcs.1
  have hb3 : Below w.heap.size w (((w.alloc (.cells #[.slice (some ⟨g0, 0, none⟩) 1 1] 22)).alloc (.cells #[.func (.func 58) #[] #[]] 40)).alloc (.cells #[.slice A la ca] 22)) :=
    (((Below.refl _ w).alloc (Nat.le_refl _) _).alloc (by simp) _).alloc (by simp; omega) _
  have hsz : (((w.alloc (.cells #[.slice (some ⟨g0, 0, none⟩) 1 1] 22)).alloc (.cells #[.func (.func 58) #[] #[]] 40)).alloc (.cells #[.slice A la ca] 22)).heap.size = w.heap.size + 3 := by simp
  simp only [World.size_alloc] at hcs3 hca
  obtain ⟨w3, hw3⟩ : ∃ w3, w3 = ((w.alloc (.cells #[.slice (some ⟨g0, 0, none⟩) 1 1] 22)).alloc (.cells #[.func (.func 58) #[] #[]] 40)).alloc (.cells #[.slice A la ca] 22) := ⟨_, rfl⟩
  rw [← hw3] at hcm3 hfm3 hcs3 hca hb3 hsz ⊢
  rw [← hBe] at hcm3 hfm3 hcs3 hca hb3 hsz ⊢
  have hgB : g0 < B := by have := HG.out.lt; omega
  clear hw3 hcm hcs
  have HBE := Lib.hid hBe
  clear hBe
  have hreads : ∀ W, Fx (B + 3) (fun k => k = B) w3 W → Reads (B + 2) A la ca (fun i v => v = a[i]?.getD 0) W := by
    intro W hW
    refine ⟨(hW.cell (p := ⟨B + 2, 0, none⟩) (by show B + 2 < B + 3; omega) (by show ¬ (B + 2 = B); omega)).trans hca.1, fun i hi => ?_⟩
    obtain ⟨bl, off, e, hlt, hcl⟩ := HA.out (by rw [u64s_len, ← HN.out]; omega)
    refine ⟨bl, off, a[i]?.getD 0, e, get_big HAB.out i, rfl, ?_⟩
    have hlt' : bl < B := by have := HBE.out; omega
    rw [hW.cell (p := ⟨bl, off + i, none⟩) (by show bl < B + 3; omega) (by show ¬ (bl = B); omega), hb3.cell (p := ⟨bl, off + i, none⟩) hlt']
    exact hcl i _ (u64s_at (by rw [← HN.out]; exact hi))
  have HRD := Lib.hid hreads
  clear hreads
  have HCS := Lib.hid hcs3
  have HSZ := Lib.hid hsz
  have hsz2 : B + 3 ≤ w3.heap.size := by omega
  clear hcs3 hsz hca
  refine wpIn_rangeFunc_ownF rfl (by omega) (gf := 73) (lb := #[.pointer (some ⟨B + 1 + 1, 0, none⟩)]) rfl trivial (enters_of Try.func73 (by kernel_rfl) rfl)
    (back_stops (3 - 1) (by omega) (B + 2) A la ca (by omega) (fun i v => v = a[i]?.getD 0) (fun W => Fx (B + 3) (fun k => k = B) w3 W) (Fx (B + 3) (fun k => k = B)) HRD.out (fun W W' h k => h.trans k) w3 (fun W h => Fx.of_below h (fun k hk _ => by omega)))
    Fx.trans (Fx.k_b (by omega)) (Below.refl _ _) (fun _ => rfl)
    (fun pre W => (∃ g L m, W.cell? ⟨B, 0, none⟩ = some (.slice (some ⟨g, 0, none⟩) m m) ∧ m = pre.length + 1 ∧ Ar W g L ∧ L.length = m ∧ Pl.Sm L ∧ Pl.co L = Pl.prodR (Nums pre).reverse ∧ g ≠ B ∧ (g = g0 ∨ B ≤ g)) ∧
      ((∃ v, W.cell? ⟨B, 0, none⟩ = some v ∧ W.frozen? ⟨B, 0, none⟩ = false) ∧ Fx (B + 3) (fun k => k = B) w3 W))
    (fun _ _ _ => False)
    (OwnFrom.and (Own.from (fun s W1 W2 row hs hg' hr => by
        obtain ⟨g, L, m, h0, h1, h2, h3, h4, h5, h6, h7⟩ := hs
        exact ⟨g, L, m, cell_kept h0 hg' hr, h1, blk_kept h2 hg' hr, h3, h4, h5, h6, h7⟩) _)
      (OwnFrom.and (Own.from (fun s W1 W2 row hs hg' hr => by
        obtain ⟨v, h0, h1⟩ := hs
        exact ⟨v, cell_kept h0 hg' hr, (frozen_kept h0 hg' hr).trans h1⟩) _) (Fx.own hsz2 hsz2)))
    (fun _ _ _ _ _ hs _ _ => hs)
    ⟨⟨g0, [1], 1, hcm3, rfl, HG.out.below hb3 hgB, rfl, by intro x hx; rw [List.mem_singleton.1 hx]; omega, by
      show Pl.co [1] = Pl.C 1
      rw [Pl.co_cons, Pl.co_nil, Pl.sh_zero, Pl.add_zero]; rfl, by omega, .inl rfl⟩, ⟨_, hcm3, hfm3⟩, Fx.refl _ _ _⟩
    (fun x => { tmps := #[.slice A la ca, .slice (some ⟨g0, 0, none⟩) 1 1, .func (.func 58) #[] #[], undef, .pointer (some ⟨B, 0, none⟩), .pointer (some ⟨B + 1, 0, none⟩), .slice none 0 0, undef, .int .u64 (x.num : Int), .slice A la ca,
      .func (.func 73) #[] #[.pointer (some ⟨B + 1 + 1, 0, none⟩)], .int .i64 (x.idx : Int), .int .u64 (x.num : Int), undef, undef, undef, undef, undef], defers := [] }) ?assign ?body ?done ?stop
  case assign =>
    intro l x W K hK
    unfold Pr.enc
    gi_wp2
    exact hK
  case body =>
    rintro l pre x W ⟨⟨g, L, m, hcm, hm, hr, hl, hs, hc, hgB2, hgo⟩, ⟨v, hcv, hfm⟩, hfx⟩ hlt
    have hx := x.lt
    have hnl : (Nums (pre ++ [x])).reverse = x.num :: (Nums pre).reverse := by unfold Nums; simp
    obtain ⟨z, hz⟩ : ∃ z, z = x.num := ⟨_, rfl⟩
    rw [← hz] at hx hnl ⊢
    have hce' := (hfx.cell (p := ⟨B + 1, 0, none⟩) (by show B + 1 < B + 3; omega) (by show ¬ (B + 1 = B); omega)).trans HCS.out
    have hrl := hr.lt
    have hm6 : m ≤ 1000000 := by omega
    have hsB : B + 3 ≤ W.heap.size := by have := hfx.size; omega
    have hroot := withRoot_any (some ⟨g, 0, none⟩) m m (m + 1) z L W hl.symm rfl hm6 hs.big hx (hr.rd hrl)
    have HW := Lib.hid hroot
    have HC := Lib.hid hc
    have HNL := Lib.hid hnl
    have HM := Lib.hid hm
    clear hr hs hc hl hnl hz hroot hm
    gi_wp2_with (refine ⟨trivial, ?_⟩; gi_at_call 58; refine (CallsIn.inRound l (callsIn_wide.2 HW.out)).mono ?_; rintro e w4 ⟨⟨g4, L4, rfl, hg41, hg42, hg43, hg44, hg45⟩, hb4⟩; have H42 := Lib.hid hg42; have H43 := Lib.hid hg43; have H44 := Lib.hid hg44; have H45 := Lib.hid hg45; clear hg42 hg43 hg44 hg45; have hcm4 := (hb4.cell (p := ⟨B, 0, none⟩) (by show B < W.heap.size; omega)).trans hcm; have hfm4 := (hb4.frozen (p := ⟨B, 0, none⟩) (by show B < W.heap.size; omega)).trans hfm)
    have hfx4 : Fx (B + 3) (fun k => k = B) W w4 := Fx.of_below hb4 fun j hj hx => by omega
    have hs4 := World.cell?_setCell_same' w4 ⟨B, 0, none⟩ (.slice (some ⟨g4, 0, none⟩) (m + 1) (m + 1)) (by rw [hcm4]; rfl)
    refine ⟨(KeepsOthers.of_grownBy (row := none) (below_grown hb4 none) (by intro j o e; cases e)).trans (KeepsOthers.setCell _ _ _), hfx4.set_ (.inr rfl) _, ⟨g4, L4, m + 1, hs4, by have := HM.out; simp; omega, Ar.other H42.out (by omega), H43.out, H44.out, ?_, by omega, .inr (by omega)⟩, ⟨_, hs4, by rw [World.frozen?_setCell]; exact hfm4⟩, (hfx.trans hfx4).set_ (.inr rfl) _⟩
    rw [H45.out, HC.out, HNL.out]; rfl
  case done =>
    rintro D ys W hD ⟨hseen, hyl⟩ ⟨⟨g, L, m, hcm, hm, hr, hl, hs, hc, hgB2, hgo⟩, ⟨v, hcv, hfm⟩, hfx⟩ hK
    have hall : (Nums ys).reverse = a := seen_all HN.out hseen hyl
    rw [hall] at hc
    rw [hyl] at hm
    subst hm
    have hgD : g ≠ D := by
      have h1 := hr
      unfold Ar Blk at h1
      rintro rfl
      rw [h1] at hK
      cases hK
    have HR := Lib.hid hr
    have HS := Lib.hid hs
    have HC := Lib.hid hc
    have HLN := Lib.hid hl
    have HKD := Lib.hid hK
    clear hr hs hc hl hall hseen hyl hK hcv
    gi_wp2
    refine ⟨by simp, .inl ⟨_, _, rfl, run_takeDeferred HKD.out, ?_⟩⟩
    refine ⟨_, results_tmp rfl _ _ _, ⟨g, L, rfl, ?_, HLN.out, HS.out, HC.out, by have := HBE.out; omega⟩, ?_⟩
    · exact (World.putObj_heap_other hgD).trans HR.out
    · have hfd : Fx (B + 3) (fun k => k = B) w3 (W.putObj D (.deferred none)) := hfx.put (by omega) _
      rw [← HBE.out]
      exact hb3.trans (hfd.below fun j hj => ⟨by omega, by show ¬ (j = B); omega⟩)
  case stop =>
    rintro D c pre W _ _ h _
    exact h.elim

set_option maxRecDepth 100000 in
set_option maxHeartbeats 1000000 in
theorem of_poly (A : Option Addr) (la ca : Nat) (a : List Nat) (w : World) (hlab : la ≤ 1000000) (hn : la = a.length) (ha : ∀ y ∈ a, y < 18446744073709551616) (hA : Rd w.heap.size w A (u64s a)) :
    Calls Try.prog 31 #[.slice A la ca] w fun e w' => Made w.heap.size (la + 1) (Pl.prodR a) e w' ∧ Below w.heap.size w w' := by
  have hb1 : Below w.heap.size w (w.alloc (.cells #[.int .u64 1] 23)) := (Below.refl _ w).alloc (Nat.le_refl _) _
  have h := foldl_any w.heap.size la ca A a (w.alloc (.cells #[.int .u64 1] 23)) (ar_new w [1]) hlab hn ha ((hA.below hb1).more (by simp))
  have H := Lib.hid h
  clear h hn ha hA
  go_enter Try.func31, Try.ntmps31
  go_wp2_with fail
  refine H.out.mono ?_
  rintro e w2 ⟨⟨g, L, rfl, hg1, hg2, hg3, hg4, hg5⟩, hb2⟩
  have H1 := Lib.hid hg1
  have H2 := Lib.hid hg2
  have H3 := Lib.hid hg3
  have H4 := Lib.hid hg4
  clear hg1 hg2 hg3 hg4
  go_wp2
  go_ret
  exact ⟨⟨g, L, rfl, by simp at hg5; omega, H1.out, H2.out, H3.out, H4.out⟩, hb1.trans (hb2.mono (by simp))⟩
end Go.Proofs.Ytalljoneflepiaa
