/-
  Package share's At, Join and Split: what shares tell, and a secret's shares; what was there is left as it was. Up to a thousand shares, and coefficients.
-/
import Derived.Test.YthnbkbmhlalpaaaShi
namespace Go.Proofs.Ythnbkbmhlalpaaa
open Go.RowKit Go.Maps
attribute [local go_sem ↓] Go.wp_at_zero Go.wp_at_succ

set_option maxRecDepth 100000 in
set_option maxHeartbeats 2000000 in
theorem at_any (A : Option Addr) (n c x r z : Nat) (l : List Shr) (w : World) (hA : St w A n c l) (hn : n ≤ 1000) (hx : x < 18446744073709551616) (ht : Sr.tell l x = (r, z)) :
    Calls Try.prog 16 #[.slice A n c, .int .u64 (x : Int)] w fun e w' => e = .returned (.tuple #[.int .u64 (r : Int), .int .i64 (z : Int)]) ∧ Below w.heap.size w w' := by
  have H := Lib.hid (through_any A n c l w hA hn)
  clear hA
  by_cases hg : Sr.Good l
  · rw [Sr.tell_good hg] at ht
    injection ht with h1 h2
    subst h2
    have HR := Lib.hid h1
    clear h1
    go_enter Try.func16, Try.ntmps16
    go_wp2_with fail
    refine (H.out).mono ?_
    rintro e w1 ⟨⟨h1, -⟩, hb1⟩
    obtain ⟨o, rfl, ho⟩ := h1 hg
    have HO := Lib.hid ho
    clear h1 ho hg H
    go_wp2_with fail
    refine (eval_v HO.out.q (by omega) x hx).mono ?_
    rintro e w2 ⟨rfl, hb2⟩
    go_wp2
    go_ret2
    have e : (vl (Sr.pol l) x : Nat) = r := HR.out
    rw [e]
    exact ⟨rfl, kept_trans hb1 hb2⟩
  · rw [Sr.tell_bad hg] at ht
    injection ht with h1 h2
    subst h1 h2
    go_enter Try.func16, Try.ntmps16
    go_wp2_with fail
    refine (H.out).mono ?_
    rintro e w1 ⟨⟨-, h1⟩, hb1⟩
    obtain rfl := h1 hg
    clear h1 hg H
    go_wp2
    go_ret2
    exact ⟨rfl, hb1⟩

set_option maxRecDepth 100000 in
set_option maxHeartbeats 2000000 in
theorem join_any (A : Option Addr) (n c r z : Nat) (l : List Shr) (w : World) (hA : St w A n c l) (hn : n ≤ 1000) (ht : Sr.tell l 0 = (r, z)) :
    Calls Try.prog 18 #[.slice A n c] w fun e w' => e = .returned (.tuple #[.int .u64 (r : Int), .int .i64 (z : Int)]) ∧ Below w.heap.size w w' := by
  have H := Lib.hid (at_any A n c 0 r z l w hA hn (by omega) ht)
  clear hA ht
  go_enter Try.func18, Try.ntmps18
  go_wp2_with fail
  refine (H.out).mono ?_
  rintro e w1 ⟨rfl, hb1⟩
  go_wp2
  go_ret2
  exact ⟨rfl, hb1⟩

/-! ### Split -/
theorem split_none (s : Nat) (o : Value) (z : Int) (w : World) (hz : z < 1) :
    Calls Try.prog 13 #[.int .u64 (s : Int), o, .int .i64 z] w fun e w' => e = .returned (.slice none 0 0) ∧ Below w.heap.size w w' := by
  go_enter Try.func13, Try.ntmps13
  go_wp2
  go_ret
  exact ⟨rfl, Below.refl _ _⟩
/-- The row's cells when the first j shares are there. -/
def Fil (w : World) (G n : Nat) (f : List Nat) (j : Nat) : Prop := ∃ cs : Array Value, Blk w G 33 cs ∧ cs.size = n * 2 ∧ ∀ i s, (Sr.split f j)[i]? = some s → cs[i * 2]? = some (.int .u64 (s.a : Int)) ∧ cs[i * 2 + 1]? = some (.int .u64 (s.v : Int))
theorem Fil.start (w : World) (cs : Array Value) (n : Nat) (f : List Nat) (h : cs.size = n * 2) : Fil (w.alloc (.cells cs 33)) w.heap.size n f 0 := ⟨cs, blk_new w _ _, h, by intro i s hs; simp [Sr.split] at hs⟩
theorem Fil.below {w w' : World} {G n j : Nat} {f : List Nat} (h : Fil w G n f j) (hb : Below w.heap.size w w') : Fil w' G n f j := by
  obtain ⟨cs, h1, h2⟩ := h
  exact ⟨cs, h1.below hb h1.lt, h2⟩
theorem Fil.free {w : World} {G n j : Nat} {f : List Nat} (h : Fil w G n f j) (hj : j < n) : (∃ u, w.cell? ⟨G, j * 2, none⟩ = some u) ∧ (∃ u, w.cell? ⟨G, j * 2 + 1, none⟩ = some u) ∧ w.frozen? ⟨G, j * 2, none⟩ = false ∧ w.frozen? ⟨G, j * 2 + 1, none⟩ = false := by
  obtain ⟨cs, h1, h2, h3⟩ := h
  refine ⟨⟨cs[j * 2]'(by omega), ?_⟩, ⟨cs[j * 2 + 1]'(by omega), ?_⟩, h1.frozen _, h1.frozen _⟩
  · rw [h1.cell, Array.getElem?_eq_getElem]
  · rw [h1.cell, Array.getElem?_eq_getElem]
theorem Fil.set_ {w : World} {G n j p y : Nat} {f : List Nat} (h : Fil w G n f j) (hj : j < n) (hp : p = j + 1) (hy : y = Pl.hv p f) : Fil ((w.setCell ⟨G, j * 2, none⟩ (.int .u64 (p : Int))).setCell ⟨G, j * 2 + 1, none⟩ (.int .u64 (y : Int))) G n f (j + 1) := by
  obtain ⟨cs, h1, h2, h3⟩ := h
  refine ⟨_, (h1.set_ (j * 2) (.int .u64 (p : Int))).set_ (j * 2 + 1) (.int .u64 (y : Int)), by rw [Array.size_setIfInBounds, Array.size_setIfInBounds, h2], fun i s hs => ?_⟩
  rw [Sr.split_succ] at hs
  rcases Nat.lt_or_ge i j with hi | hi
  · rw [List.getElem?_append_left (by rw [Sr.split_len]; exact hi)] at hs
    have h4 := h3 i s hs
    constructor
    · rw [Array.getElem?_setIfInBounds_ne (by omega), Array.getElem?_setIfInBounds_ne (by omega)]; exact h4.1
    · rw [Array.getElem?_setIfInBounds_ne (by omega), Array.getElem?_setIfInBounds_ne (by omega)]; exact h4.2
  · rw [List.getElem?_append_right (by rw [Sr.split_len]; exact hi), Sr.split_len] at hs
    have e : i = j := by
      rcases Nat.lt_or_ge (i - j) 1 with h5 | h5
      · omega
      · rw [List.getElem?_eq_none (by simpa using h5)] at hs; cases hs
    subst e
    rw [Nat.sub_self] at hs
    injection hs with hs
    subst hs
    subst hp
    subst hy
    constructor
    · rw [Array.getElem?_setIfInBounds_ne (by omega), Array.getElem?_setIfInBounds_self_of_lt (by omega)]
    · rw [Array.getElem?_setIfInBounds_self_of_lt (by rw [Array.size_setIfInBounds]; omega)]
theorem Fil.st {w : World} {G n : Nat} {f : List Nat} (h : Fil w G n f n) (hn : n ≤ 1000000) : St w (some ⟨G, 0, none⟩) n n (Sr.split f n) := by
  obtain ⟨cs, h1, h2, h3⟩ := h
  refine ⟨(Sr.split_len f n).symm, fun _ => ⟨G, 0, rfl, h1.lt, fun i s hs => ?_⟩, Nat.le_refl _, (fun e => by cases e), Sr.split_small f hn⟩
  rw [h1.cell, h1.cell, Nat.zero_add]
  exact h3 i s hs
theorem make_shares (n : Nat) (hn : n ≤ 1000) : ∃ cs : Array Value, cs.size = n * 2 ∧ ∀ W : World,
    (Instr.makeSlice 27 (.int .i64 (n : Int)) (.int .i64 (n : Int))).run Try.prog W = .ok (.slice (some ⟨W.heap.size, 0, none⟩) n n) (W.alloc (.cells cs 33)) := by
  obtain ⟨i0, hi, hz0, hz1, hz2⟩ := info_parts info_share
  refine ⟨madeCells (Value.agg #[.int .u64 0, .int .u64 0]).cells (n * 2), size_madeCells _ _, fun W => ?_⟩
  have h := run_make (P := Try.prog) W 27 33 i0 (.agg #[.int .u64 0, .int .u64 0]) Try.underlying27 hi hz0 .i64 .i64 (n : Int) (n : Int) (by omega) (by omega) (by rw [hz2]; omega) (by omega)
  rw [hz1] at h
  simp only [Int.toNat_natCast] at h
  exact h

set_option maxRecDepth 100000 in
set_option maxHeartbeats 4000000 in
theorem split_any (s k n c : Nat) (A : Option Addr) (f cs : List Nat) (w : World) (hf : f = s :: cs) (hA : Pt w A n c cs) (hs : s < 18446744073709551616) (hcs : ∀ y ∈ cs, y < 18446744073709551616) (hn : n ≤ 1000) (hk : k ≤ 1000) (hk0 : 0 < k) :
    Calls Try.prog 13 #[.int .u64 (s : Int), .slice A n c, .int .i64 (k : Int)] w fun e w' => (∃ B, e = .returned (.slice B k k) ∧ St w' B k k (Sr.split f k)) ∧ Below w.heap.size w w' := by
  have HF := Lib.hid hf
  have hfb : ∀ y ∈ f, y < 18446744073709551616 := by
    rw [hf]
    intro y hy
    rcases List.mem_cons.1 hy with h | h
    · rw [h]; exact hs
    · exact hcs y h
  have HFB := Lib.hid hfb
  have hb0 : Below w.heap.size w ((w.alloc (.cells #[.int .u64 (s : Int)] 22)).alloc (.cells #[.slice (some ⟨w.heap.size, 0, none⟩) 1 1, .slice A n c] 23)) := ((Below.refl _ w).alloc (Nat.le_refl _) _).alloc (by simp) _
  have hA2 := (hA.new (.cells #[.int .u64 (s : Int)] 22)).new (.cells #[.slice (some ⟨w.heap.size, 0, none⟩) 1 1, .slice A n c] 23)
  have h1 : Pt (w.alloc (.cells #[.int .u64 (s : Int)] 22)) (some ⟨w.heap.size, 0, none⟩) 1 1 [s] := ⟨rfl, rd_one w s, Nat.le_refl _, fun e => by cases e⟩
  have h12 := h1.new (.cells #[.slice (some ⟨w.heap.size, 0, none⟩) 1 1, .slice A n c] 23)
  have hS2 := blk_new (w.alloc (.cells #[.int .u64 (s : Int)] 22)) 23 #[.slice (some ⟨w.heap.size, 0, none⟩) 1 1, .slice A n c]
  rw [World.size_alloc] at hS2
  have HC := Lib.hid (concat64_any [s] cs _ A (w.heap.size + 1) 1 1 n c _ (by omega) (by omega) (by omega) hS2 h12 hA2)
  have HB0 := Lib.hid hb0
  have hfl : f.length = n + 1 := by rw [hf, List.length_cons, hA.1]
  have HFL := Lib.hid hfl
  obtain ⟨cs0, hcs0, hmk⟩ := make_shares k hk
  have HCS := Lib.hid hcs0
  have q1 : ¬ ((k : Int) < 1) := by omega
  have q2 : ¬ ((k : Int) > 134217727) := by omega
  clear hf hfb hb0 hA hA2 h1 h12 hS2 hs hcs hfl hcs0
  go_enter Try.func13, Try.ntmps13
  go_wp2_with fail
  refine (HC.out).mono ?_
  rintro e w1 ⟨⟨zf, rfl, hz⟩, hb1⟩
  obtain ⟨Bz, hzf⟩ : ∃ B, Gl B w1 zf f := ⟨_, by rw [HF.out]; exact hz⟩
  obtain ⟨Af, cf, rfl, hp, -⟩ := hzf.pt
  rw [HFL.out] at hp ⊢
  have HP := Lib.hid hp
  have HB1 := Lib.hid (HB0.out.trans (hb1.mono HB0.out.size))
  have HS := Lib.hid (Fil.start w1 cs0 k f HCS.out)
  have HBA := Lib.hid ((Below.refl w1.heap.size w1).alloc (Nat.le_refl _) (.cells cs0 33))
  clear hb1 hz hzf hp HC HB0
  go_wp2
  obtain ⟨w2, hw2⟩ : ∃ w2, w2 = w1.alloc (.cells cs0 33) := ⟨_, rfl⟩
  obtain ⟨G, hGe⟩ : ∃ G, G = w1.heap.size := ⟨_, rfl⟩
  rw [← hw2] at HS HBA ⊢
  rw [← hGe] at HS HBA ⊢
  have HGE := Lib.hid hGe
  clear hw2 hGe
  go_loopw [26] (fun i wr => ∃ j : Nat, i = .int .i64 (j : Int) ∧ j ≤ k ∧ Fil wr G k f j ∧ Below G w1 wr) (fun i _ => k - (intOf i).toNat)
  case atStart => exact ⟨0, rfl, Nat.zero_le _, HS.out, HBA.out⟩
  case round =>
    obtain ⟨j, rfl, hj, hfil, hb⟩ := hrel
    have HFIL := Lib.hid hfil
    have HBR := Lib.hid hb
    clear hfil hb
    by_cases hlt : j < k
    · obtain ⟨p, hp⟩ : ∃ p, p = j + 1 := ⟨_, rfl⟩
      have hpj : (j : Int) + 1 = (p : Int) := by omega
      have hpb : p ≤ 1000 := by omega
      have hPr : Pt wr Af (n + 1) cf f := HP.out.below (by rw [← HGE.out]; exact HBR.out)
      have hev := Lib.hid (eval_poly Af (n + 1) cf p f wr (by omega) (by omega) hPr.1 HFB.out hPr.2.1)
      obtain ⟨y, hy⟩ : ∃ y, y = Pl.hv p f := ⟨_, rfl⟩
      rw [← hy] at hev
      have HY := Lib.hid hy
      have HPJ := Lib.hid hp
      have q3 : (j : Int) < (k : Int) := by omega
      have q4 : (0 : Int) ≤ (j : Int) := by omega
      clear hy hPr hp
      go_wp2_with fail
      refine (hev.out).mono ?_
      rintro e w3 ⟨rfl, hb3⟩
      have HFIL3 := Lib.hid (HFIL.out.below hb3)
      obtain ⟨⟨u0, c0⟩, ⟨u1, c1⟩, f0, f1⟩ := HFIL3.out.free hlt
      have hG3 : G < w3.heap.size := by obtain ⟨cs9, h9, _⟩ := HFIL3.out; exact h9.lt
      have hGr : G ≤ wr.heap.size := by obtain ⟨cs9, h9, _⟩ := HFIL.out; exact Nat.le_of_lt h9.lt
      have HB3 := Lib.hid (HBR.out.trans (hb3.mono hGr))
      have HF4 := Lib.hid (HFIL3.out.set_ hlt HPJ.out HY.out)
      clear hb3 hev
      go_wp2
      go_roundw
      case rel => exact ⟨j + 1, by go_num, hlt, HF4.out, HB3.out.trans (below_only (only_set (only_set (only_refl _ _) _ _) _ _) (Nat.le_refl _) (by omega))⟩
      case measure => simp [intOf]; omega
    · obtain rfl : j = k := by omega
      go_wp2
      go_ret
      exact ⟨⟨_, rfl, HFIL.out.st (by omega)⟩, HB1.out.trans (HBR.out.mono (by rw [HGE.out]; exact HB1.out.size))⟩

end Go.Proofs.Ythnbkbmhlalpaaa
