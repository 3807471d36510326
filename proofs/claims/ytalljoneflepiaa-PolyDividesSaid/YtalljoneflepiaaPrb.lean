/-
  Package poly's fold over numbers, at the product's inner function: the sum of all its products, in memory. For lists of numbers of 64 bits, up to a million of them.
-/
import Derived.Test.YtalljoneflepiaaPra
namespace Go.Proofs.Ytalljoneflepiaa
open Go.RowKit Go.Shelf
attribute [local go_sem] Oper.semAt_some

/-- What lies below n, but for the blocks of X, lies as it lay. -/
structure Fx (n : Nat) (X : Nat → Prop) (w w' : World) : Prop where
  os : w'.os = w.os
  tape : w'.tape = w.tape
  output : w'.output = w.output
  size : w.heap.size ≤ w'.heap.size
  block : ∀ k, k < n → ¬ X k → w'.heap[k]? = w.heap[k]?
namespace Fx
theorem refl (n : Nat) (X : Nat → Prop) (w : World) : Fx n X w w := ⟨rfl, rfl, rfl, Nat.le_refl _, fun _ _ _ => rfl⟩
theorem trans {n : Nat} {X : Nat → Prop} {a b c : World} (h : Fx n X a b) (k : Fx n X b c) : Fx n X a c :=
  ⟨k.os.trans h.os, k.tape.trans h.tape, k.output.trans h.output, Nat.le_trans h.size k.size, fun i hi hx => (k.block i hi hx).trans (h.block i hi hx)⟩
theorem of_below {n m : Nat} {X : Nat → Prop} {w w' : World} (h : Below m w w') (hm : ∀ k, k < n → ¬ X k → k < m) : Fx n X w w' := ⟨h.os, h.tape, h.output, h.size, fun k hk hx => h.block k (hm k hk hx)⟩
theorem of_grown {n : Nat} {X : Nat → Prop} {w w' : World} {row : Option Nat} (h : w.grownBy w' row) (hn : ∀ k, k < n → ¬ X k → k < w.heap.size ∧ some k ≠ row) : Fx n X w w' :=
  ⟨h.os, h.tape, h.output, h.size, fun k hk hx => h.block k (hn k hk hx).1 (hn k hk hx).2⟩
theorem mono {n m : Nat} {X Y : Nat → Prop} {w w' : World} (h : Fx n X w w') (hm : ∀ k, k < m → ¬ Y k → k < n ∧ ¬ X k) : Fx m Y w w' := ⟨h.os, h.tape, h.output, h.size, fun k hk hx => h.block k (hm k hk hx).1 (hm k hk hx).2⟩
theorem below {n m : Nat} {X : Nat → Prop} {w w' : World} (h : Fx n X w w') (hm : ∀ k, k < m → k < n ∧ ¬ X k) : Below m w w' := ⟨h.os, h.tape, h.output, h.size, fun k hk => h.block k (hm k hk).1 (hm k hk).2⟩
theorem grown {n g : Nat} {X : Nat → Prop} {w w' : World} (h : Fx n X w w') (hm : ∀ k, k < w.heap.size → k ≠ g → k < n ∧ ¬ X k) : w.grownBy w' (some g) :=
  ⟨h.os, h.tape, h.output, h.size, fun k hk hx => have hh := hm k hk (fun e => hx (by rw [e])); h.block k hh.1 hh.2⟩
theorem cell {n : Nat} {X : Nat → Prop} {w w' : World} (h : Fx n X w w') {p : Addr} (hp : p.block < n) (hx : ¬ X p.block) : w'.cell? p = w.cell? p := World.cell?_of_block (h.block _ hp hx)
theorem frozen {n : Nat} {X : Nat → Prop} {w w' : World} (h : Fx n X w w') {p : Addr} (hp : p.block < n) (hx : ¬ X p.block) : w'.frozen? p = w.frozen? p := World.frozen?_of_block (h.block _ hp hx)
theorem set_ {n : Nat} {X : Nat → Prop} {a w : World} (h : Fx n X a w) {p : Addr} (hp : n ≤ p.block ∨ X p.block) (u : Value) : Fx n X a (w.setCell p u) :=
  ⟨h.os, h.tape, h.output, by simpa [World.setCell] using h.size, fun k hk hx => (Below.heap_setCell w p u k (fun e => by
    rcases hp with h1 | h1
    · omega
    · exact hx (e ▸ h1))).trans (h.block k hk hx)⟩
theorem put {n : Nat} {X : Nat → Prop} {a w : World} (h : Fx n X a w) {l : Nat} (hl : n ≤ l) (o' : Obj) : Fx n X a (w.putObj l o') :=
  ⟨h.os, h.tape, h.output, by have := (grownBy_putObj' w l o').size; exact Nat.le_trans h.size this, fun k hk hx => (World.putObj_heap_other (by omega)).trans (h.block k hk hx)⟩
theorem k_b {n : Nat} {X : Nat → Prop} {w : World} (hn : n ≤ w.heap.size) (W : World) (l : Nat) (o o' : Obj) (hl : w.heap.size ≤ l) (_ : W.heap[l]? = some o) (_ : o.isCells = false) (_ : o.isWalk = false) : Fx n X W (W.putObj l o') :=
  (Fx.refl n X W).put (by omega) o'
theorem own {β : Type} {n B : Nat} {X : Nat → Prop} {w₀ : World} (hn : n ≤ w₀.heap.size) (hB : n ≤ B) : OwnFrom B (fun (_ : β) W => Fx n X w₀ W) := fun _ _ _ _ hs hg hr =>
  ⟨hg.os.trans hs.os, hg.tape.trans hs.tape, hg.output.trans hs.output, Nat.le_trans hs.size hg.size, fun k hk hx =>
    (hg.block k (by have := hs.size; omega) (fun e => by have := (hr k e.symm).1; omega)).trans (hs.block k hk hx)⟩
end Fx

theorem Ar.other {w : World} {g B : Nat} {L : List Nat} {v : Value} (h : Ar w g L) (hB : g ≠ B) : Ar (w.setCell ⟨B, 0, none⟩ v) g L := (Below.heap_setCell w ⟨B, 0, none⟩ v g hB).trans h

namespace Pl
theorem fold_next (la k : Nat) (pre : List Nat) (x : Nat) (B : Pl) (hk : pre.length + (k + 1) = la) :
    shn (la - (pre ++ [x]).length) (co (pre ++ [x]).reverse * B) = shn (la - pre.length) (co pre.reverse * B) + C (Fld.to x) * shn k B := by
  rw [List.length_append, List.length_singleton, show la - (pre.length + 1) = k by omega, show la - pre.length = k + 1 by omega, List.reverse_append, List.reverse_singleton, List.singleton_append, co_cons, add_mul, shn_add, shn_smul, sh_mul, shn_sh, add_comm]
end Pl

def Nums {n : Nat} (ys : List (Pr n)) : List Nat := ys.map Pr.num
theorem seen_all {a : List Nat} {n : Nat} {ys : List (Pr n)} (hn : n = a.length) (h : Seen n (fun i v => v = a[i]?.getD 0) ys) (hl : ys.length = n) : (Nums ys).reverse = a := by
  subst hn
  have hlen : (Nums ys).reverse.length = a.length := by simp [Nums, hl]
  refine List.ext_getElem hlen fun i h1 h2 => ?_
  have hj : a.length - 1 - i < ys.length := by omega
  obtain ⟨e1, e2⟩ := h.2 (a.length - 1 - i) _ (List.getElem?_eq_getElem hj)
  rw [List.getElem_reverse]
  simp only [Nums, List.length_map, List.getElem_map]
  have e3 : (ys[ys.length - 1 - i]'(by omega)).idx = i := by
    have : ys.length - 1 - i = a.length - 1 - i := by omega
    simp only [this]; omega
  have e4 : (ys[ys.length - 1 - i]'(by omega)).num = a[i]?.getD 0 := by
    have : ys.length - 1 - i = a.length - 1 - i := by omega
    simp only [this]
    rw [e2]
    congr 2
    omega
  rw [e4, List.getElem?_eq_getElem h2]; rfl

set_option maxRecDepth 100000 in
set_option maxHeartbeats 2000000 in
theorem foldi_any (g B5 B3 K la ca lb cb : Nat) (L : List Nat) (A A2 : Option Addr) (a b : List Nat) (w : World) (h5 : w.cell? ⟨B5, 0, none⟩ = some (.slice (some ⟨g, 0, none⟩) K K)) (h3 : w.cell? ⟨B3, 0, none⟩ = some (.slice A2 lb cb)) (h5g : B5 ≠ g) (h3g : B3 ≠ g)
    (h5l : B5 < w.heap.size) (h3l : B3 < w.heap.size)
    (hg : Ar w g L) (hL : Pl.Sm L) (hK : L.length = K) (hz : Pl.co L = 0) (hk : 0 < la → la + lb ≤ K + 1) (hKb : K ≤ 10000000) (hlab : la ≤ 1000000) (hm : lb = b.length) (hb : ∀ y ∈ b, y < 18446744073709551616) (hA2 : Rq g w A2 (u64s b))
    (hn : la = a.length) (ha : ∀ y ∈ a, y < 18446744073709551616) (hA : Rq g w A (u64s a)) :
    Calls Try.prog 66 #[.slice A la ca, .int .i64 ((la : Int) - 1), .func (.func 67) #[] #[.pointer (some ⟨B5, 0, none⟩), .pointer (some ⟨B3, 0, none⟩)]] w fun e w' =>
      (∃ r, e = .returned r) ∧ (∃ L', Ar w' g L' ∧ L'.length = K ∧ Pl.Sm L' ∧ Pl.co L' = Pl.co a * Pl.co b) ∧ w.grownBy w' (some g) := by
  have HG := Lib.hid hg
  have HL := Lib.hid hL
  have HK := Lib.hid hK
  have HZ := Lib.hid hz
  have HM := Lib.hid hm
  have HB := Lib.hid hb
  have HA2 := Lib.hid hA2
  have HN := Lib.hid hn
  have HAB := Lib.hid ha
  have HA := Lib.hid hA
  have HKK := Lib.hid hk
  clear hg hL hK hz hm hb hA2 hn ha hA hk
  refine (callsIn_wide (n := 3)).1 ?_
  refine callsIn_of_wp_marks Try.func66 rfl trivial ?_ rfl
  simp only [Try.ntmps66, List.size_toArray, List.length_cons, List.length_nil, Nat.reduceAdd, Nat.reduceSub, Array.replicate_succ, Array.replicate_zero, List.push_toArray, List.append_toArray, List.nil_append, List.cons_append]
  gi_wp2_with (refine ⟨trivial, ?_⟩; gi_at_call 68; refine (back_call Fence.wide (3 - 1) trivial rfl _ _ _ _).mono ?_; rintro e w' ⟨rfl, rfl⟩)
  obtain ⟨B, hBe⟩ : ∃ B, B = w.heap.size := ⟨_, rfl⟩
  have hcm := cell_new_l w (.int .i64 ((la : Int) - 1)) 3
  have hcs := cell_new_l (w.alloc (.cells #[.int .i64 ((la : Int) - 1)] 3)) (.func (.func 67) #[] #[.pointer (some ⟨B5, 0, none⟩), .pointer (some ⟨B3, 0, none⟩)]) 59
  have hca := cell_new_l ((w.alloc (.cells #[.int .i64 ((la : Int) - 1)] 3)).alloc (.cells #[.func (.func 67) #[] #[.pointer (some ⟨B5, 0, none⟩), .pointer (some ⟨B3, 0, none⟩)]] 59)) (.slice A la ca) 22
  have hcm3 := cell_alloc_l (.cells #[.slice A la ca] 22) (cell_alloc_l (.cells #[.func (.func 67) #[] #[.pointer (some ⟨B5, 0, none⟩), .pointer (some ⟨B3, 0, none⟩)]] 59) hcm.1)
  have hfm3 := frozen_alloc_l (.cells #[.slice A la ca] 22) (cell_alloc_l (.cells #[.func (.func 67) #[] #[.pointer (some ⟨B5, 0, none⟩), .pointer (some ⟨B3, 0, none⟩)]] 59) hcm.1) (frozen_alloc_l (.cells #[.func (.func 67) #[] #[.pointer (some ⟨B5, 0, none⟩), .pointer (some ⟨B3, 0, none⟩)]] 59) hcm.1 hcm.2)
  have hcs3 := cell_alloc_l (.cells #[.slice A la ca] 22) hcs.1
  have hb3 : Below w.heap.size w (((w.alloc (.cells #[.int .i64 ((la : Int) - 1)] 3)).alloc (.cells #[.func (.func 67) #[] #[.pointer (some ⟨B5, 0, none⟩), .pointer (some ⟨B3, 0, none⟩)]] 59)).alloc (.cells #[.slice A la ca] 22)) :=
    (((Below.refl _ w).alloc (Nat.le_refl _) _).alloc (by simp) _).alloc (by simp; omega) _
  have hsz : (((w.alloc (.cells #[.int .i64 ((la : Int) - 1)] 3)).alloc (.cells #[.func (.func 67) #[] #[.pointer (some ⟨B5, 0, none⟩), .pointer (some ⟨B3, 0, none⟩)]] 59)).alloc (.cells #[.slice A la ca] 22)).heap.size = w.heap.size + 3 := by simp
  simp only [World.size_alloc] at hcs3 hca
  obtain ⟨w3, hw3⟩ : ∃ w3, w3 = ((w.alloc (.cells #[.int .i64 ((la : Int) - 1)] 3)).alloc (.cells #[.func (.func 67) #[] #[.pointer (some ⟨B5, 0, none⟩), .pointer (some ⟨B3, 0, none⟩)]] 59)).alloc (.cells #[.slice A la ca] 22) := ⟨_, rfl⟩
  rw [← hw3] at hcm3 hfm3 hcs3 hca hb3 hsz ⊢
  rw [← hBe] at hcm3 hfm3 hcs3 hca hb3 hsz h5l h3l ⊢
  have hgB : g < B := by have := HG.out.lt; omega
  clear hw3 hcm hcs
  have HBE := Lib.hid hBe
  clear hBe
  have HA' : Hid (Rq g w A (u64s a)) := HA
  have hreads : ∀ W, Fx (B + 3) (fun k => k = g ∨ k = B) w3 W → Reads (B + 2) A la ca (fun i v => v = a[i]?.getD 0) W := by
    intro W hW
    refine ⟨(hW.cell (p := ⟨B + 2, 0, none⟩) (by show B + 2 < B + 3; omega) (by show ¬ (B + 2 = g ∨ B + 2 = B); omega)).trans hca.1, fun i hi => ?_⟩
    obtain ⟨bl, off, e, hne, hlt, hcl⟩ := HA'.out (by rw [u64s_len, ← HN.out]; omega)
    refine ⟨bl, off, a[i]?.getD 0, e, get_big HAB.out i, rfl, ?_⟩
    have hlt' : bl < B := by have := HBE.out; omega
    rw [hW.cell (p := ⟨bl, off + i, none⟩) (by show bl < B + 3; omega) (by show ¬ (bl = g ∨ bl = B); omega), hb3.cell (p := ⟨bl, off + i, none⟩) hlt']
    exact hcl i _ (u64s_at (by rw [← HN.out]; exact hi))
  have HRD := Lib.hid hreads
  clear hreads HA'
  have HCS := Lib.hid hcs3
  have HSZ := Lib.hid hsz
  have hsz2 : B + 3 ≤ w3.heap.size := by omega
  clear hcs3 hsz hca
  have hH5 := Lib.hid h5
  have hH3 := Lib.hid h3
  clear h5 h3
  refine wpIn_rangeFunc_ownF rfl (by omega) (gf := 73) (lb := #[.pointer (some ⟨B + 1 + 1, 0, none⟩)]) rfl trivial (enters_of Try.func73 (by kernel_rfl) rfl)
    (back_stops (3 - 1) (by omega) (B + 2) A la ca (by omega) (fun i v => v = a[i]?.getD 0) (fun W => Fx (B + 3) (fun k => k = g ∨ k = B) w3 W) (Fx (B + 3) (fun k => k = g ∨ k = B)) HRD.out (fun W W' h k => h.trans k) w3 (fun W h => Fx.of_below h (fun k hk _ => by omega)))
    Fx.trans (Fx.k_b (by omega)) (Below.refl _ _) (fun _ => rfl)
    (fun pre W => (∃ L', Ar W g L' ∧ L'.length = K ∧ Pl.Sm L' ∧ Pl.co L' = Pl.shn (la - (Nums pre).length) (Pl.co (Nums pre).reverse * Pl.co b)) ∧
      ((W.cell? ⟨B, 0, none⟩ = some (.int .i64 ((la : Int) - 1 - (pre.length : Nat))) ∧ W.frozen? ⟨B, 0, none⟩ = false) ∧ Fx (B + 3) (fun k => k = g ∨ k = B) w3 W))
    (fun _ _ _ => False)
    (OwnFrom.and (Own.from (fun s W1 W2 row hs hg' hr => by
        obtain ⟨L', h1, h2, h3, h4⟩ := hs
        exact ⟨L', blk_kept h1 hg' hr, h2, h3, h4⟩) _)
      (OwnFrom.and (Own.from (fun s W1 W2 row hs hg' hr => ⟨cell_kept hs.1 hg' hr, (frozen_kept hs.1 hg' hr).trans hs.2⟩) _) (Fx.own hsz2 hsz2)))
    (fun _ _ _ _ _ hs _ _ => hs)
    ⟨⟨L, HG.out.below hb3 hgB, HK.out, HL.out, by rw [HZ.out]; show _ = Pl.shn _ (Pl.co [] * _); rw [Pl.co_nil, Pl.zero_mul, Pl.shn_zero]⟩, ⟨by rw [hcm3]; simp, hfm3⟩, Fx.refl _ _ _⟩
    (fun x => { tmps := #[.slice A la ca, .int .i64 ((la : Int) - 1), .func (.func 67) #[] #[.pointer (some ⟨B5, 0, none⟩), .pointer (some ⟨B3, 0, none⟩)], undef, .pointer (some ⟨B, 0, none⟩), .pointer (some ⟨B + 1, 0, none⟩), .int .i64 0, undef, .int .u64 (x.num : Int), .slice A la ca,
      .func (.func 73) #[] #[.pointer (some ⟨B + 1 + 1, 0, none⟩)], .int .i64 (x.idx : Int), .int .u64 (x.num : Int), undef, undef, undef, undef, undef], defers := [] }) ?assign ?body ?done ?stop
  case assign =>
    intro l x W K hK
    unfold Pr.enc
    gi_wp2
    exact hK
  case body =>
    rintro l pre x W ⟨⟨L', hr, hl, hs, hc⟩, ⟨hcm, hfm⟩, hfx⟩ hlt
    have hx := x.lt
    obtain ⟨k, hk⟩ : ∃ k, pre.length + (k + 1) = la := ⟨la - 1 - pre.length, by omega⟩
    have hke : (la : Int) - 1 - (pre.length : Nat) = (k : Int) := by omega
    rw [hke] at hcm
    have hnx := Pl.fold_next la k (Nums pre) x.num (Pl.co b) (by unfold Nums; rw [List.length_map]; exact hk)
    have hnl : Nums (pre ++ [x]) = Nums pre ++ [x.num] := by unfold Nums; simp
    obtain ⟨z, hz⟩ : ∃ z, z = x.num := ⟨_, rfl⟩
    rw [← hz] at hx hnx hnl ⊢
    have hkb : k + lb ≤ K := by have := HKK.out (by omega); omega
    have hce := HCS.out
    have hce' := (hfx.cell (p := ⟨B + 1, 0, none⟩) (by show B + 1 < B + 3; omega) (by show ¬ (B + 1 = g ∨ B + 1 = B); omega)).trans hce
    have h5' := (hfx.cell (p := ⟨B5, 0, none⟩) (by show B5 < B + 3; omega) (by show ¬ (B5 = g ∨ B5 = B); omega)).trans ((hb3.cell (p := ⟨B5, 0, none⟩) h5l).trans hH5.out)
    have h3' := (hfx.cell (p := ⟨B3, 0, none⟩) (by show B3 < B + 3; omega) (by show ¬ (B3 = g ∨ B3 = B); omega)).trans ((hb3.cell (p := ⟨B3, 0, none⟩) h3l).trans hH3.out)
    have hA2' : Rq g W A2 (u64s b) := fun hp => by
      obtain ⟨bl, off, e, hne, hbl, hcl⟩ := HA2.out hp
      have hlt' : bl < B := by have := HBE.out; omega
      refine ⟨bl, off, e, hne, by have := hfx.size; omega, fun i u hu => ?_⟩
      rw [hfx.cell (p := ⟨bl, off + i, none⟩) (by show bl < B + 3; omega) (by show ¬ (bl = g ∨ bl = B); omega), hb3.cell (p := ⟨bl, off + i, none⟩) hlt']
      exact hcl i u hu
    have HR := Lib.hid hr
    have HS := Lib.hid hs
    have HC := Lib.hid hc
    have HLN := Lib.hid hl
    have HNX := Lib.hid hnx
    have HNL := Lib.hid hnl
    have HKE := Lib.hid hke
    have HAW := Lib.hid hA2'
    have H5W := Lib.hid h5'
    have H3W := Lib.hid h3'
    have HKK2 := Lib.hid hk
    clear hr hs hc hl hnx hnl hke hA2' h5' h3' hce hz hk
    gi_wp2_with (refine ⟨trivial, ?_⟩; gi_at_call 67; refine (CallsIn.inRound l (callsIn_wide.2 (prod1_any g B5 B3 K k lb cb z L' A2 b W H5W.out H3W.out HR.out HS.out.big HLN.out hkb hKb HM.out HB.out hx HAW.out))).mono ?_; rintro e w4 ⟨rfl, hr4, hg4⟩; have HR4 := Lib.hid hr4; clear hr4; have hcm4 := (World.cell?_of_block (a := ⟨B, 0, none⟩) (hg4.block B (by have := hfx.size; omega) (fun e => by injection e with e; omega))).trans hcm; have hfm4 := (World.frozen?_of_block (a := ⟨B, 0, none⟩) (hg4.block B (by have := hfx.size; omega) (fun e => by injection e with e; omega))).trans hfm)
    have hiso : ∀ (j : Nat) (o : Obj), some g = some j → W.heap[j]? = some o → o.isCells = true := by
      intro j o e ho
      injection e with e
      subst e
      have h := HR.out
      unfold Ar Blk at h
      rw [h] at ho
      injection ho with ho
      subst ho
      rfl
    have hfx4 : Fx (B + 3) (fun k => k = g ∨ k = B) W w4 := Fx.of_grown hg4 fun j hj hx => ⟨by have := hfx.size; omega, fun e => hx (.inl (by injection e))⟩
    refine ⟨(KeepsOthers.of_grownBy hg4 hiso).trans (KeepsOthers.setCell _ _ _), hfx4.set_ (.inr (.inr rfl)) _, ⟨_, Ar.other HR4.out (by omega), by rw [Pl.up_len]; exact HLN.out, Pl.up_sm HS.out _ _ _ _, ?_⟩, ⟨?_, ?_⟩, (hfx.trans hfx4).set_ (.inr (.inr rfl)) _⟩
    · rw [Pl.co_up_all L' k b z lb HM.out (by rw [HLN.out]; exact hkb), HC.out, HNL.out, HNX.out]
    · rw [World.cell?_setCell_same' _ _ _ (by rw [hcm4]; rfl), List.length_append, List.length_singleton]
      congr 2
      have := HKK2.out
      omega
    · rw [World.frozen?_setCell]; exact hfm4
  case done =>
    rintro D ys W hD ⟨hseen, hyl⟩ ⟨⟨L', hr, hl, hs, hc⟩, ⟨hcm, hfm⟩, hfx⟩ hK
    have hall : (Nums ys).reverse = a := seen_all HN.out hseen hyl
    have hnum : (Nums ys).length = la := by unfold Nums; rw [List.length_map]; exact hyl
    rw [hall, hnum, Nat.sub_self] at hc
    rw [hyl] at hcm
    have HR := Lib.hid hr
    have HS := Lib.hid hs
    have HC := Lib.hid hc
    have HLN := Lib.hid hl
    have HKD := Lib.hid hK
    clear hr hs hc hl hall hnum hseen hyl hK
    gi_wp2
    refine ⟨by simp, .inl ⟨_, _, rfl, run_takeDeferred HKD.out, ?_⟩⟩
    have hDg : D ≠ g := by omega
    refine ⟨_, results_tmp rfl _ _ _, ⟨_, rfl⟩, ⟨L', ?_, HLN.out, HS.out, HC.out⟩, ?_⟩
    · exact (World.putObj_heap_other (by omega)).trans HR.out
    · have hfd : Fx (B + 3) (fun k => k = g ∨ k = B) w3 (W.putObj D (.deferred none)) := hfx.put (by omega) _
      refine Fx.grown (n := B) (X := fun k => k = g) ((Fx.of_below hb3 (by have := HBE.out; omega)).trans (hfd.mono fun j hj hx => ⟨by omega, by show ¬ (j = g ∨ j = B); have hx' : ¬ j = g := hx; omega⟩)) fun j hj hx => ⟨by have := HBE.out; omega, hx⟩
  case stop =>
    rintro D c pre W _ _ h _
    exact h.elim
end Go.Proofs.Ytalljoneflepiaa
