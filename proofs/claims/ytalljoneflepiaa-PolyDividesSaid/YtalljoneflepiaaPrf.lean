/-
  Package poly's fold at the value's inner function, and Eval: the value of a polynomial; what was there was left as it was. For lists of numbers of 64 bits, up to a million of them.
-/
import Derived.Test.YtalljoneflepiaaPre
namespace Go.Proofs.Ytalljoneflepiaa
open Go.RowKit Go.Shelf
attribute [local go_sem] Oper.semAt_some

namespace Pl
/-- The value, reckoned. -/
def hv (x : Nat) : List Nat → Nat
  | [] => 0
  | c :: l => Fld.add (Fld.mul (hv x l) x) c
theorem hv_lt (x : Nat) : ∀ l, hv x l < 2305843009213693951
  | [] => by show 0 < 2305843009213693951; omega
  | _ :: _ => Fld.add_lt _ _
theorem hv_val (x : Nat) : ∀ l, Fld.to (hv x l) = val (co l) (Fld.to x)
  | [] => by rw [co_nil, val_zero]; rfl
  | c :: l => by
    rw [hv, Fld.to_addF, Fld.to_mulF, hv_val x l, co_cons, val_add (Po.C _) (Po.co l).sh, val_C, val_sh (Po.co l)]; grind
end Pl

set_option maxRecDepth 100000 in
set_option maxHeartbeats 1000000 in
theorem eval1_any (Bx v c x : Nat) (w : World) (hx : w.cell? ⟨Bx, 0, none⟩ = some (.int .u64 (x : Int))) (hxb : x < 18446744073709551616) (hv : v < 18446744073709551616) (hc : c < 18446744073709551616) :
    Calls Try.prog 50 #[.int .u64 (v : Int), .int .u64 (c : Int), .pointer (some ⟨Bx, 0, none⟩)] w fun e w' => e = .returned (.int .u64 ((Fld.add (Fld.mul v x) c : Nat) : Int)) ∧ w = w' := by
  have hm := Fld.mul_lt v x
  go_enter Try.func50, Try.ntmps50
  go_wp2_with fail
  refine (mul_any v x _ hv hxb).mono ?_
  rintro e w' ⟨rfl, rfl⟩
  go_wp2_with fail
  refine (add_any _ c _ (by omega) hc).mono ?_
  rintro e w' ⟨rfl, rfl⟩
  go_wp2
  go_ret
  exact ⟨rfl, rfl⟩

set_option maxRecDepth 100000 in
set_option maxHeartbeats 2000000 in
theorem foldv_any (Bx x la ca : Nat) (A : Option Addr) (a : List Nat) (w : World) (hx : w.cell? ⟨Bx, 0, none⟩ = some (.int .u64 (x : Int))) (hxl : Bx < w.heap.size) (hxb : x < 18446744073709551616) (hlab : la ≤ 1000000)
    (hn : la = a.length) (ha : ∀ y ∈ a, y < 18446744073709551616) (hA : Rd w.heap.size w A (u64s a)) :
    Calls Try.prog 49 #[.slice A la ca, .int .u64 0, .func (.func 50) #[] #[.pointer (some ⟨Bx, 0, none⟩)]] w fun e w' =>
      e = .returned (.int .u64 (Pl.hv x a : Nat)) ∧ Below w.heap.size w w' := by
  have HX := Lib.hid hx
  have HN := Lib.hid hn
  have HAB := Lib.hid ha
  have HA := Lib.hid hA
  clear hx hn ha hA
  refine (callsIn_wide (n := 3)).1 ?_
  refine callsIn_of_wp_marks Try.func49 rfl trivial ?_ rfl
  simp only [Try.ntmps49, List.size_toArray, List.length_cons, List.length_nil, Nat.reduceAdd, Nat.reduceSub, Array.replicate_succ, Array.replicate_zero, List.push_toArray, List.append_toArray, List.nil_append, List.cons_append]
  gi_wp2_with (refine ⟨trivial, ?_⟩; gi_at_call 68; refine (back_call Fence.wide (3 - 1) trivial rfl _ _ _ _).mono ?_; rintro e w' ⟨rfl, rfl⟩)
  obtain ⟨B, hBe⟩ : ∃ B, B = w.heap.size := ⟨_, rfl⟩
  have hcm := cell_new_l w (.int .u64 0) 23
  have hcs := cell_new_l (w.alloc (.cells #[.int .u64 0] 23)) (.func (.func 50) #[] #[.pointer (some ⟨Bx, 0, none⟩)]) 43
  have hca := cell_new_l ((w.alloc (.cells #[.int .u64 0] 23)).alloc (.cells #[.func (.func 50) #[] #[.pointer (some ⟨Bx, 0, none⟩)]] 43)) (.slice A la ca) 22
  have hcm3 := cell_alloc_l (.cells #[.slice A la ca] 22) (cell_alloc_l (.cells #[.func (.func 50) #[] #[.pointer (some ⟨Bx, 0, none⟩)]] 43) hcm.1)
  have hfm3 := frozen_alloc_l (.cells #[.slice A la ca] 22) (cell_alloc_l (.cells #[.func (.func 50) #[] #[.pointer (some ⟨Bx, 0, none⟩)]] 43) hcm.1) (frozen_alloc_l (.cells #[.func (.func 50) #[] #[.pointer (some ⟨Bx, 0, none⟩)]] 43) hcm.1 hcm.2)
  have hcs3 := cell_alloc_l (.cells #[.slice A la ca] 22) hcs.1
  have hb3 : Below w.heap.size w (((w.alloc (.cells #[.int .u64 0] 23)).alloc (.cells #[.func (.func 50) #[] #[.pointer (some ⟨Bx, 0, none⟩)]] 43)).alloc (.cells #[.slice A la ca] 22)) :=
    (((Below.refl _ w).alloc (Nat.le_refl _) _).alloc (by simp) _).alloc (by simp; omega) _
  have hsz : (((w.alloc (.cells #[.int .u64 0] 23)).alloc (.cells #[.func (.func 50) #[] #[.pointer (some ⟨Bx, 0, none⟩)]] 43)).alloc (.cells #[.slice A la ca] 22)).heap.size = w.heap.size + 3 := by simp
  simp only [World.size_alloc] at hcs3 hca
  obtain ⟨w3, hw3⟩ : ∃ w3, w3 = ((w.alloc (.cells #[.int .u64 0] 23)).alloc (.cells #[.func (.func 50) #[] #[.pointer (some ⟨Bx, 0, none⟩)]] 43)).alloc (.cells #[.slice A la ca] 22) := ⟨_, rfl⟩
  rw [← hw3] at hcm3 hfm3 hcs3 hca hb3 hsz ⊢
  rw [← hBe] at hcm3 hfm3 hcs3 hca hb3 hsz hxl ⊢
  clear hw3 hcm hcs
  have HBE := Lib.hid hBe
  clear hBe
  have hreads : ∀ W, Fx (B + 3) (fun k => k = B) w3 W → Reads (B + 2) A la ca (fun i v => v = a[i]?.getD 0) W := by
    intro W hW
    refine ⟨(hW.cell (p := ⟨B + 2, 0, none⟩) (by show B + 2 < B + 3; omega) (by show ¬ (B + 2 = B); omega)).trans hca.1, fun i hi => ?_⟩
    obtain ⟨bl, off, e, hlt, hcl⟩ := HA.out (by rw [u64s_len, ← HN.out]; omega)
    refine ⟨bl, off, a[i]?.getD 0, e, get_big HAB.out i, rfl, ?_⟩
    have hlt' : bl < B := by have := HBE.out; omega
    rw [hW.cell (p := ⟨bl, off + i, none⟩) (by show bl < B + 3; omega) (by show ¬ (bl = B); omega), hb3.cell (p := ⟨bl, off + i, none⟩) hlt']
    exact hcl i _ (u64s_at (by rw [← HN.out]; exact hi))
  have HRD := Lib.hid hreads
  clear hreads
  have HCS := Lib.hid hcs3
  have HSZ := Lib.hid hsz
  have hsz2 : B + 3 ≤ w3.heap.size := by omega
  clear hcs3 hsz hca
  refine wpIn_rangeFunc_ownF rfl (by omega) (gf := 73) (lb := #[.pointer (some ⟨B + 1 + 1, 0, none⟩)]) rfl trivial (enters_of Try.func73 (by kernel_rfl) rfl)
    (back_stops (3 - 1) (by omega) (B + 2) A la ca (by omega) (fun i v => v = a[i]?.getD 0) (fun W => Fx (B + 3) (fun k => k = B) w3 W) (Fx (B + 3) (fun k => k = B)) HRD.out (fun W W' h k => h.trans k) w3 (fun W h => Fx.of_below h (fun k hk _ => by omega)))
    Fx.trans (Fx.k_b (by omega)) (Below.refl _ _) (fun _ => rfl)
    (fun pre W => (W.cell? ⟨B, 0, none⟩ = some (.int .u64 (Pl.hv x (Nums pre).reverse : Nat)) ∧ W.frozen? ⟨B, 0, none⟩ = false) ∧ Fx (B + 3) (fun k => k = B) w3 W)
    (fun _ _ _ => False)
    (OwnFrom.and (Own.from (fun s W1 W2 row hs hg' hr => ⟨cell_kept hs.1 hg' hr, (frozen_kept hs.1 hg' hr).trans hs.2⟩) _) (Fx.own hsz2 hsz2))
    (fun _ _ _ _ _ hs _ _ => hs)
    ⟨⟨hcm3, hfm3⟩, Fx.refl _ _ _⟩
    (fun y => { tmps := #[.slice A la ca, .int .u64 0, .func (.func 50) #[] #[.pointer (some ⟨Bx, 0, none⟩)], undef, .pointer (some ⟨B, 0, none⟩), .pointer (some ⟨B + 1, 0, none⟩), .int .u64 0, undef, .int .u64 (y.num : Int), .slice A la ca,
      .func (.func 73) #[] #[.pointer (some ⟨B + 1 + 1, 0, none⟩)], .int .i64 (y.idx : Int), .int .u64 (y.num : Int), undef, undef, undef, undef, undef], defers := [] }) ?assign ?body ?done ?stop
  case assign =>
    intro l y W K hK
    unfold Pr.enc
    gi_wp2
    exact hK
  case body =>
    rintro l pre y W ⟨⟨hcm, hfm⟩, hfx⟩ hlt
    have hy := y.lt
    have hnl : (Nums (pre ++ [y])).reverse = y.num :: (Nums pre).reverse := by unfold Nums; simp
    obtain ⟨z, hz⟩ : ∃ z, z = y.num := ⟨_, rfl⟩
    rw [← hz] at hy hnl ⊢
    have hvl := Pl.hv_lt x (Nums pre).reverse
    have hnx : Pl.hv x (Nums (pre ++ [y])).reverse = Fld.add (Fld.mul (Pl.hv x (Nums pre).reverse) x) z := by rw [hnl]; rfl
    obtain ⟨v, hve⟩ : ∃ v, v = Pl.hv x (Nums pre).reverse := ⟨_, rfl⟩
    rw [← hve] at hvl hnx hcm
    have hce' := (hfx.cell (p := ⟨B + 1, 0, none⟩) (by show B + 1 < B + 3; omega) (by show ¬ (B + 1 = B); omega)).trans HCS.out
    have hx' := (hfx.cell (p := ⟨Bx, 0, none⟩) (by show Bx < B + 3; omega) (by show ¬ (Bx = B); omega)).trans ((hb3.cell (p := ⟨Bx, 0, none⟩) hxl).trans HX.out)
    have HXW := Lib.hid hx'
    have HNX := Lib.hid hnx
    clear hnl hz hve hnx hx'
    gi_wp2_with (refine ⟨trivial, ?_⟩; gi_at_call 50; refine (CallsIn.inRound l (callsIn_wide.2 (eval1_any Bx v z x W HXW.out hxb (by omega) hy))).mono ?_; rintro e w4 ⟨rfl, rfl⟩)
    refine ⟨KeepsOthers.setCell _ _ _, (Fx.refl (B + 3) (fun k => k = B) W).set_ (p := ⟨B, 0, none⟩) (.inr rfl) _, ⟨?_, ?_⟩, hfx.set_ (.inr rfl) _⟩
    · rw [HNX.out]; exact World.cell?_setCell_same' _ _ _ (by rw [hcm]; rfl)
    · rw [World.frozen?_setCell]; exact hfm
  case done =>
    rintro D ys W hD ⟨hseen, hyl⟩ ⟨⟨hcm, hfm⟩, hfx⟩ hK
    have hall : (Nums ys).reverse = a := seen_all HN.out hseen hyl
    rw [hall] at hcm
    have HKD := Lib.hid hK
    clear hall hseen hyl hK
    gi_wp2
    refine ⟨by simp, .inl ⟨_, _, rfl, run_takeDeferred HKD.out, ?_⟩⟩
    refine ⟨_, results_tmp rfl _ _ _, rfl, ?_⟩
    have hfd : Fx (B + 3) (fun k => k = B) w3 (W.putObj D (.deferred none)) := hfx.put (by omega) _
    rw [← HBE.out]
    exact hb3.trans (hfd.below fun j hj => ⟨by omega, by show ¬ (j = B); omega⟩)
  case stop =>
    rintro D c pre W _ _ h _
    exact h.elim

set_option maxRecDepth 100000 in
set_option maxHeartbeats 1000000 in
theorem eval_poly (A : Option Addr) (la ca x : Nat) (a : List Nat) (w : World) (hlab : la ≤ 1000000) (hxb : x < 18446744073709551616) (hn : la = a.length) (ha : ∀ y ∈ a, y < 18446744073709551616) (hA : Rd w.heap.size w A (u64s a)) :
    Calls Try.prog 20 #[.slice A la ca, .int .u64 (x : Int)] w fun e w' => e = .returned (.int .u64 (Pl.hv x a : Nat)) ∧ Below w.heap.size w w' := by
  have hb1 : Below w.heap.size w (w.alloc (.cells #[.int .u64 (x : Int)] 23)) := (Below.refl _ w).alloc (Nat.le_refl _) _
  have h := foldv_any w.heap.size x la ca A a (w.alloc (.cells #[.int .u64 (x : Int)] 23)) (cell_new_l w (.int .u64 (x : Int)) 23).1 (by simp) hxb hlab hn ha ((hA.below hb1).more (by simp))
  have H := Lib.hid h
  clear h hn ha hA
  go_enter Try.func20, Try.ntmps20
  go_wp2_with fail
  refine H.out.mono ?_
  rintro e w2 ⟨rfl, hb2⟩
  go_wp2
  go_ret
  exact ⟨rfl, hb1.trans (hb2.mono (by simp))⟩
end Go.Proofs.Ytalljoneflepiaa
