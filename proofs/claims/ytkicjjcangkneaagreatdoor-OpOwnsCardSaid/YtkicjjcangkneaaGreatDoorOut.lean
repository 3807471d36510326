/-
  Package pack's Out: each of its calls writes its bytes behind what was written. For up to a million bytes.
-/
import Derived.Test.YtkicjjcangkneaaGreatDoorInn
import Derived.Lib.AppendStr
namespace Go.Proofs.YtkicjjcangkneaaGreatDoor
open Go.RowKit
set_option maxRecDepth 100000
attribute [local go_sem ↓] Go.wp_at_zero Go.wp_at_succ

/-- Block O is an Out whose bytes are l; it and they lie from block lo on, ahead of block hi. -/
def Ou (lo hi : Nat) (w : World) (O : Nat) (l : List UInt8) : Prop :=
  ∃ A c, Blk w O 93 #[.slice A l.length c] ∧ w.ownsRow lo 5 1 (.slice A l.length c) l.length (u8s l) ∧ lo ≤ O ∧ O < hi ∧ (∀ g, (Value.slice A l.length c).ownBlock = some g → g < hi) ∧ hi ≤ w.heap.size
theorem Ou.lt {lo hi : Nat} {w : World} {O : Nat} {l : List UInt8} (h : Ou lo hi w O l) : lo ≤ O ∧ O < hi ∧ hi ≤ w.heap.size := by
  obtain ⟨_, _, _, _, h1, h2, _, h3⟩ := h
  exact ⟨h1, h2, h3⟩
theorem row_type {w : World} {lo g : Nat} {v : Value} {n : Nat} {xs : List Value} (h : w.ownsRow lo 5 1 v n xs) (hg : v.ownBlock = some g) {O t : Nat} {cs : Array Value} (hO : Blk w O t cs) (ht : t ≠ 5) : O ≠ g := by
  rintro rfl
  rcases h.2 with ⟨rfl, _⟩ | ⟨g', cap, cur, rfl, _, hb, _⟩
  · cases hg
  · injection hg with hg
    subst hg
    unfold Blk at hO
    rw [hb] at hO
    injection hO with hO
    injection hO with _ hO
    exact ht hO.symm
/-- What is written beyond hi, or on none of both, leaves an Out as it was. -/
theorem Ou.below {lo hi n : Nat} {w w' : World} {O : Nat} {l : List UInt8} (h : Ou lo hi w O l) (hb : Below n w w') (hn : hi ≤ n) : Ou lo hi w' O l := by
  obtain ⟨A, c, hB, hA, h1, h2, h3, h4⟩ := h
  refine ⟨A, c, hB.below hb (by omega), ⟨hA.1, ?_⟩, h1, h2, h3, Nat.le_trans h4 hb.size⟩
  rcases hA.2 with h0 | ⟨g, cap, cur, e, hg, hcell, h⟩
  · exact .inl h0
  · exact .inr ⟨g, cap, cur, e, hg, (hb.block g (by have := h3 g (by rw [e]; rfl); omega)).trans hcell, h⟩
theorem Ou.grown {lo hi : Nat} {w w' : World} {O : Nat} {l : List UInt8} {row : Option Nat} (h : Ou lo hi w O l) (hg : w.grownBy w' row) (hr : ∀ g, row = some g → hi ≤ g) : Ou lo hi w' O l := by
  have hb : Below hi w w' := ⟨hg.os, hg.tape, hg.output, hg.size, fun j hj => hg.block j (by have := h.lt; omega) (fun e => by have := hr j e.symm; omega)⟩
  exact h.below hb (Nat.le_refl _)
theorem ou_u8s_app (l l' : List UInt8) : u8s (l ++ l') = u8s l ++ u8s l' := by unfold u8s; rw [List.map_append]
/-- Blocks that are neither an Out nor bytes are as they were. -/
def Keeps (w w' : World) : Prop := ∀ B t cs, t ≠ 93 → t ≠ 5 → Blk w B t cs → Blk w' B t cs
theorem Keeps.refl (w : World) : Keeps w w := fun _ _ _ _ _ h => h
theorem Keeps.trans {a b c : World} (h : Keeps a b) (k : Keeps b c) : Keeps a c := fun B t cs h1 h2 hB => k B t cs h1 h2 (h B t cs h1 h2 hB)
theorem Ou.append {lo hi m m2 : Nat} {w w0 w1 : World} {O : Nat} {l l2 : List UInt8} {xs2 : List Value} {A : Option Addr} {c : Nat} {A' : Option Addr} {c' : Nat}
    (hm : m = l.length) (hm2 : m2 = l2.length) (hx : xs2 = u8s l2)
    (hB : Blk w O 93 #[.slice A m c]) (hA : w.ownsRow lo 5 1 (.slice A m c) m (u8s l)) (h1 : lo ≤ O) (h2 : O < hi) (h4 : hi ≤ w.heap.size)
    (hw0 : w.grownBy w0 none) (hg : w0.grownBy w1 (Value.slice A m c).ownBlock) (ho : w1.ownsRow lo 5 1 (.slice A' (m + m2) c') (m + m2) (u8s l ++ xs2)) :
    w1.cell? ⟨O, 0, none⟩ = some (.slice A m c) ∧ w1.frozen? ⟨O, 0, none⟩ = false ∧
    Ou lo (w1.setCell ⟨O, 0, none⟩ (.slice A' (m + m2) c')).heap.size (w1.setCell ⟨O, 0, none⟩ (.slice A' (m + m2) c')) O (l ++ l2) ∧ Below lo w (w1.setCell ⟨O, 0, none⟩ (.slice A' (m + m2) c')) ∧ Keeps w (w1.setCell ⟨O, 0, none⟩ (.slice A' (m + m2) c')) := by
  subst hm hm2 hx
  have hB0 := blk_grown hB hw0 (fun e => by cases e)
  have hB1 : Blk w1 O 93 #[.slice A l.length c] := blk_grown hB0 hg (fun e => row_type hA e.symm hB (by decide) rfl)
  have hb : Below lo w w1 := ((Below.refl lo w).grown hw0 (by omega) (fun k e => by cases e)).grown hg (by have := hw0.size; omega) (fun k e => (hA.lt k e).1)
  have hsz : (w1.setCell ⟨O, 0, none⟩ (.slice A' (l.length + l2.length) c')).heap.size = w1.heap.size := by simp [World.setCell]
  rw [hsz]
  refine ⟨hB1.cell 0, hB1.frozen 0, ⟨A', c', ?_, ?_, h1, ?_, ?_, by rw [hsz]; exact Nat.le_refl _⟩, ?_, ?_⟩
  · rw [List.length_append]
    exact hB1.set_ 0 _
  · rw [List.length_append, ou_u8s_app]
    refine ho.kept (only_set (only_refl _ (some O)) 0 _) ?_
    by_cases hn : (Value.slice A' (l.length + l2.length) c').ownBlock = none
    · exact .inl hn
    · refine .inr fun e => ?_
      exact row_type ho e hB1 (by decide) rfl
  · have := hw0.size; have := hg.size; omega
  · intro g e
    rw [List.length_append] at e
    exact (ho.lt g e).2
  · exact hb.grown (only_set (only_refl _ (some O)) 0 _) (by have := hw0.size; have := hg.size; omega) (fun k e => by injection e with e; omega)
  · intro B t cs h25 h5 hBB
    have hB2 := blk_grown (blk_grown hBB hw0 (fun e => by cases e)) hg (fun e => row_type hA e.symm hBB h5 rfl)
    exact blk_grown hB2 (only_set (only_refl _ (some O)) 0 _) (fun e => by injection e with e; subst e; exact h25 (blk_type hB2 hB1))

theorem or_128 (x : Nat) (hx : x < 256) : bits .or .u8 (x : Int) 128 = ((x % 128 + 128 : Nat) : Int) := by
  have h := u8_or_nat x 128 hx (by omega)
  rw [show ((128 : Nat) : Int) = 128 from rfl] at h
  rw [h]
  have h1 : ∀ y : Fin 256, y.val ||| 128 = y.val % 128 + 128 := by decide +kernel
  rw [h1 ⟨x, hx⟩]

set_option maxRecDepth 100000 in
set_option maxHeartbeats 1000000 in
theorem onum_any {lo hi O : Nat} {l : List UInt8} {w : World} (n : Nat) (hn : n < 18446744073709551616) (hl : l.length ≤ 1000000) (h : Ou lo hi w O l) :
    Calls Tryz.prog 54 #[.pointer (some ⟨O, 0, none⟩), .int .u64 (n : Int)] w fun e w' => (∃ r, e = .returned r) ∧ Ou lo w'.heap.size w' O (l ++ Pk.num n) ∧ Below lo w w' ∧ Keeps w w' := by
  obtain ⟨i0, hi0, hz0, hz1, hz2⟩ := info_parts info_u8
  have HI := Lib.hid hi0
  have HZ0 := Lib.hid hz0
  have HZ1 := Lib.hid hz1
  have HZ2 := Lib.hid hz2
  have HN := Lib.hid (Pk.num_len10 n hn)
  have HH := Lib.hid h
  obtain ⟨F, hF⟩ : ∃ F, F = l ++ Pk.num n := ⟨_, rfl⟩
  rw [← hF]
  have HF := Lib.hid hF
  clear hi0 hz0 hz1 hz2 hF h
  go_enter Tryz.func54, Tryz.ntmps54
  go_wp2
  go_loopw [1] (fun x wr => ∃ (k : Nat) (l1 : List UInt8) (h1 : Nat), x = .int .u64 k ∧ k ≤ n ∧ F = l1 ++ Pk.num k ∧ l1.length ≤ 1000010 ∧ Ou lo h1 wr O l1 ∧ Below lo w wr ∧ Keeps w wr) (fun x _ => (intOf x).toNat)
  case atStart => exact ⟨n, l, hi, rfl, Nat.le_refl _, HF.out, by omega, HH.out, Below.refl _ _, Keeps.refl _⟩
  case round =>
    obtain ⟨k, l1, h1, rfl, hk, hFk, hl1, hou, hb, hkp⟩ := hrel
    obtain ⟨A, c, hB, hA, hlo, hOh, hgh, hhs⟩ := hou
    have o0 : wr.cell? ⟨O, 0, none⟩ = some (.slice A l1.length c) := hB.cell 0
    have hlen : l1.length + (Pk.num k).length ≤ 1000010 := by
      have h0 := congrArg List.length hFk
      have h3 := congrArg List.length HF.out
      rw [List.length_append] at h0 h3
      have := HN.out
      omega
    obtain ⟨m, hm⟩ : ∃ m, m = l1.length := ⟨_, rfl⟩
    rw [← hm] at o0 hB hA hlen
    have HM := Lib.hid hm
    have HB := Lib.hid hB
    have HA := Lib.hid hA
    have HBEL := Lib.hid hb
    have HFK := Lib.hid hFk
    have HKP := Lib.hid hkp
    clear hFk hm hB hA hb hgh hl1 HF HH hkp
    by_cases hk8 : k < 128
    · have hnum := Pk.num_small hk8
      have hw : IntKind.u8.wrap (k : Int) = (k : Int) := by rw [IntKind.wrap_u8']; omega
      obtain ⟨x, hx⟩ : ∃ x, x = k := ⟨_, rfl⟩
      have HX := Lib.hid (show [Value.int .u8 (x : Int)] = u8s [UInt8.ofNat k] by unfold u8s; rw [hx]; simp [Pk.of_nat (k := k) (by omega)])
      rw [hnum] at hlen
      have hlen1 : m + 1 ≤ 1000010 := hlen
      have HNUM := Lib.hid hnum
      clear hnum hlen
      subst hx
      go_wp2_with (at_builtin; refine wpList_append_own _ rfl _ _ 28 rfl lo 5 i0 (.int .u8 0) 1 1 Tryz.underlying28 HI.out HZ0.out HZ1.out HZ2.out rfl (by decide) _ _ _ rfl (HA.out.alloc _) ⟨wr.heap.size, 0, none⟩ 1 1 [.int .u8 (x : Int)] rfl rfl (cell_one_new _ _ _) (by simp [Value.oneCell']) (by unfold maxLen; omega) (by omega) (by simp; omega) ?_; intro v' w1 hown' hgrow _; obtain ⟨g', cap', rfl⟩ := ownsRow_succ hown'; obtain ⟨p0, pf, hou', hbb, hkk'⟩ := Ou.append HM.out (by rfl) HX.out HB.out HA.out hlo hOh hhs (World.grownBy_alloc wr _ none) hgrow hown'; have HO := Lib.hid (And.intro hou' (And.intro (HBEL.out.trans hbb) (HKP.out.trans hkk'))); clear hown' hgrow hou' hbb hkk')
      go_end0
      exact ⟨⟨_, rfl⟩, by rw [HFK.out, HNUM.out]; exact HO.out.1, HO.out.2.1, HO.out.2.2⟩
    · have hnum := Pk.num_big hk8
      obtain ⟨y, hy⟩ : ∃ y, y = k % 256 := ⟨_, rfl⟩
      obtain ⟨x, hx⟩ : ∃ x, x = k % 128 + 128 := ⟨_, rfl⟩
      obtain ⟨kd, hkd⟩ : ∃ kd, kd = k / 128 := ⟨_, rfl⟩
      have hw : IntKind.u8.wrap (k : Int) = (y : Int) := by rw [IntKind.wrap_u8']; omega
      have hor : bits .or .u8 (y : Int) 128 = (x : Int) := by rw [or_128 y (by omega)]; omega
      have hdi : (k : Int) / 128 = (kd : Int) := by omega
      rw [← hx, ← hkd] at hnum
      have HX := Lib.hid (show [Value.int .u8 (x : Int)] = u8s [UInt8.ofNat x] by unfold u8s; simp [Pk.of_nat (k := x) (by omega)])
      have hkk : kd < k := by omega
      rw [hnum, List.length_cons] at hlen
      have hlen1 : m + 1 ≤ 1000010 := by omega
      have HNUM := Lib.hid hnum
      have hk128 : (128 : Int) ≤ (k : Int) := by omega
      have HKK := Lib.hid hkk
      have hkb : k < 18446744073709551616 := by omega
      clear hnum hlen hx hy hkd hkk
      go_wp2_with (at_builtin; refine wpList_append_own _ rfl _ _ 28 rfl lo 5 i0 (.int .u8 0) 1 1 Tryz.underlying28 HI.out HZ0.out HZ1.out HZ2.out rfl (by decide) _ _ _ rfl (HA.out.alloc _) ⟨wr.heap.size, 0, none⟩ 1 1 [.int .u8 (x : Int)] rfl rfl (cell_one_new _ _ _) (by simp [Value.oneCell']) (by unfold maxLen; omega) (by omega) (by simp; omega) ?_; intro v' w1 hown' hgrow _; obtain ⟨g', cap', rfl⟩ := ownsRow_succ hown'; obtain ⟨p0, pf, hou', hbb, hkk'⟩ := Ou.append HM.out (by rfl) HX.out HB.out HA.out hlo hOh hhs (World.grownBy_alloc wr _ none) hgrow hown'; have HO := Lib.hid (And.intro hou' (And.intro (HBEL.out.trans hbb) (HKP.out.trans hkk'))); clear hown' hgrow hou' hbb hkk')
      go_roundw
      case rel =>
        refine ⟨kd, l1 ++ [UInt8.ofNat x], _, rfl, by have := HKK.out; omega, ?_, ?_, HO.out.1, HO.out.2.1, HO.out.2.2⟩
        · rw [HFK.out, HNUM.out, List.append_assoc]; rfl
        · rw [List.length_append, ← HM.out]; exact hlen1
      case measure => have := HKK.out; simp [intOf]; omega

/-! ### the other kinds -/
namespace Pk
def nInt (n : Int) : List UInt8 := num (zig n)
def nText (s : List UInt8) : List UInt8 := nInt (s.length : Nat) ++ s
def nBool (b : Bool) : List UInt8 := nInt (if b then 1 else 0)
def nName (x : Nm) : List UInt8 := nInt x.a ++ nInt x.b ++ num x.c
theorem nInt_len (n : Int) (h1 : -9223372036854775808 ≤ n) (h2 : n ≤ 9223372036854775807) : (nInt n).length ≤ 10 := num_len10 _ (zig_lt n h1 h2)
end Pk
set_option maxHeartbeats 400000 in
theorem oint_any {lo hi O : Nat} {l : List UInt8} {w : World} (n : Int) (h1 : -9223372036854775808 ≤ n) (h2 : n ≤ 9223372036854775807) (hl : l.length ≤ 1000000) (h : Ou lo hi w O l) :
    Calls Tryz.prog 118 #[.pointer (some ⟨O, 0, none⟩), .int .i64 n] w fun e w' => (∃ r, e = .returned r) ∧ Ou lo w'.heap.size w' O (l ++ Pk.nInt n) ∧ Below lo w w' ∧ Keeps w w' := by
  have HU := Lib.hid (unsigned_any n w h1 h2)
  have HO := Lib.hid (onum_any (Pk.zig n) (Pk.zig_lt n h1 h2) hl h)
  obtain ⟨F, hF⟩ : ∃ F, F = l ++ Pk.nInt n := ⟨_, rfl⟩
  rw [← hF]
  have HF := Lib.hid hF
  obtain ⟨z, hz⟩ : ∃ z, z = Pk.zig n := ⟨_, rfl⟩
  rw [← hz] at HU HO
  have HZ := Lib.hid hz
  clear h hl hF hz
  go_enter Tryz.func118, Tryz.ntmps118
  go_wp2_with fail
  refine (HU.out).mono ?_
  rintro e w1 ⟨rfl, rfl⟩
  go_wp2_with fail
  refine (HO.out).mono ?_
  rintro e w1 ⟨⟨_, rfl⟩, hou, hbk⟩
  have HOU := Lib.hid hou
  clear hou
  go_wp2
  go_end0
  refine ⟨⟨_, rfl⟩, ?_, hbk⟩
  rw [HF.out]
  show Ou lo w1.heap.size w1 O (l ++ Pk.num (Pk.zig n))
  rw [← HZ.out]
  exact HOU.out
/-! ### a text -/
theorem str_cells (s : ByteArray) : Lib.strCells s = u8s s.data.toList := rfl
theorem own_slice {w : World} {lo : Nat} {v : Value} {n : Nat} {xs : List Value} (h : w.ownsRow lo 5 1 v n xs) : ∃ A c, v = .slice A n c := by
  rcases h.2 with ⟨rfl, h0⟩ | ⟨g, cp, _, rfl, _⟩
  · exact ⟨none, 0, by rw [h0]⟩
  · exact ⟨_, cp, rfl⟩
theorem World.grownBy.refl' (w : World) : w.grownBy w none := ⟨rfl, rfl, rfl, Nat.le_refl _, fun _ _ _ => rfl⟩
set_option maxRecDepth 100000 in
set_option maxHeartbeats 1000000 in
theorem otext_any {lo hi O : Nat} {l : List UInt8} {w : World} (s : ByteArray) (hs : s.size ≤ 1000) (hl : l.length ≤ 900000) (h : Ou lo hi w O l) :
    Calls Tryz.prog 124 #[.pointer (some ⟨O, 0, none⟩), .string s] w fun e w' => (∃ r, e = .returned r) ∧ Ou lo w'.heap.size w' O (l ++ Pk.nText s.data.toList) ∧ Below lo w w' ∧ Keeps w w' := by
  obtain ⟨i0, hi0, hz0, hz1, hz2⟩ := info_parts info_u8
  have HI := Lib.hid hi0
  have HZ0 := Lib.hid hz0
  have HZ1 := Lib.hid hz1
  have HZ2 := Lib.hid hz2
  have HO := Lib.hid (oint_any (s.size : Nat) (by omega) (by omega) (by omega) h)
  have HLI := Lib.hid (Pk.nInt_len (s.size : Nat) (by omega) (by omega))
  obtain ⟨F, hF⟩ : ∃ F, F = l ++ Pk.nText s.data.toList := ⟨_, rfl⟩
  rw [← hF]
  have hF2 : F = (l ++ Pk.nInt (s.size : Nat)) ++ s.data.toList := by rw [hF, List.append_assoc]; rfl
  have HF := Lib.hid hF2
  have HL := Lib.hid hl
  clear h hl hF hF2 hi0 hz0 hz1 hz2
  go_enter Tryz.func124, Tryz.ntmps124
  go_wp2_with fail
  refine (HO.out).mono ?_
  rintro e wr ⟨⟨_, rfl⟩, hou, hb, hk⟩
  obtain ⟨A, c, hB, hA, hlo, hOh, hgh, hhs⟩ := hou
  obtain ⟨l1, hl1⟩ : ∃ l1, l1 = l ++ Pk.nInt (s.size : Nat) := ⟨_, rfl⟩
  rw [← hl1] at hB hA HF
  obtain ⟨m, hm⟩ : ∃ m, m = l1.length := ⟨_, rfl⟩
  have hmb : m ≤ 900010 := by
    rw [hm, hl1, List.length_append]
    have := HL.out
    have := HLI.out
    omega
  rw [← hm] at hB hA
  have o0 : wr.cell? ⟨O, 0, none⟩ = some (.slice A m c) := hB.cell 0
  have HM := Lib.hid hm
  have HB := Lib.hid hB
  have HA := Lib.hid hA
  have HBK := Lib.hid (And.intro hb hk)
  clear hb hk hB hA hm hl1 HO hgh
  have hlw : lo ≤ wr.heap.size := by omega
  go_wp2_with (at_builtin; refine Lib.wpList_append_own_string _ rfl _ _ 28 9 rfl lo 5 i0 Tryz.underlying28 Tryz.underlying9 HI.out HZ0.out HZ1.out HZ2.out _ _ _ rfl HA.out s rfl (by unfold maxLen; omega) (by omega) hlw ?_; intro v' w1 hown' hgrow _; obtain ⟨A2, c2, rfl⟩ := own_slice hown'; obtain ⟨p0, pf, hou', hbb, hkk'⟩ := Ou.append HM.out rfl (str_cells s) HB.out HA.out hlo hOh hhs (World.grownBy.refl' wr) hgrow hown'; have HOO := Lib.hid (And.intro hou' (And.intro (HBK.out.1.trans hbb) (HBK.out.2.trans hkk'))); clear hown' hgrow hou' hbb hkk')
  go_end0
  exact ⟨⟨_, rfl⟩, by rw [HF.out]; exact HOO.out.1, HOO.out.2⟩

/-! ### a name -/
theorem zig_bound {n : Int} (h1 : -9223372036854775808 ≤ n) (h2 : n ≤ 9223372036854775807) : (Pk.nInt n).length ≤ 10 := Pk.nInt_len n h1 h2
set_option maxHeartbeats 800000 in
theorem oname_any {lo hi O : Nat} {l : List UInt8} {w : World} (x : Pk.Nm) (ha1 : -9223372036854775808 ≤ x.a) (ha2 : x.a ≤ 9223372036854775807) (hb1 : -9223372036854775808 ≤ x.b) (hb2 : x.b ≤ 9223372036854775807) (hc : x.c < 18446744073709551616) (hl : l.length ≤ 900000) (h : Ou lo hi w O l) :
    Calls Tryz.prog 120 #[.pointer (some ⟨O, 0, none⟩), nmv x] w fun e w' => (∃ r, e = .returned r) ∧ Ou lo w'.heap.size w' O (l ++ Pk.nName x) ∧ Below lo w w' ∧ Keeps w w' := by
  obtain ⟨F, hF⟩ : ∃ F, F = l ++ Pk.nName x := ⟨_, rfl⟩
  rw [← hF]
  have hF2 : F = ((l ++ Pk.nInt x.a) ++ Pk.nInt x.b) ++ Pk.num x.c := by rw [hF]; unfold Pk.nName; simp only [List.append_assoc]
  have hlt := h.lt
  have hX := blk_new w 27 #[.int .i64 x.a, .int .i64 x.b, .int .u64 (x.c : Nat)]
  have hga := World.grownBy_alloc w (.cells #[.int .i64 x.a, .int .i64 x.b, .int .u64 (x.c : Nat)] 27) none
  have HO := Lib.hid (oint_any x.a ha1 ha2 (by omega) (h.grown hga (fun g e => by cases e)))
  have hk0 : Keeps w (w.alloc (.cells #[.int .i64 x.a, .int .i64 x.b, .int .u64 (x.c : Nat)] 27)) := fun B t cs _ _ hB => blk_alloc hB _
  have hb0 : Below lo w (w.alloc (.cells #[.int .i64 x.a, .int .i64 x.b, .int .u64 (x.c : Nat)] 27)) := (Below.refl lo w).alloc (by omega) _
  have hL1 := zig_bound ha1 ha2
  have hL2 := zig_bound hb1 hb2
  obtain ⟨B, hBe⟩ : ∃ B, B = w.heap.size := ⟨_, rfl⟩
  rw [← hBe] at hX
  have e0 : w.heap.size = B := hBe.symm
  obtain ⟨a, b, c⟩ := x
  have HX := Lib.hid hX
  have HF := Lib.hid hF2
  have HL := Lib.hid (And.intro hl (And.intro hL1 hL2))
  have HBK := Lib.hid (And.intro hb0 hk0)
  have HR := Lib.hid (And.intro hb1 (And.intro hb2 hc))
  clear h hF hF2 hX hga hk0 hb0 hL1 hL2 hBe hlt ha1 ha2 hb1 hb2 hc hl
  unfold nmv
  go_enter Tryz.func120, Tryz.ntmps120
  go_wp2_with fail
  refine (HO.out).mono ?_
  rintro e w1 ⟨⟨_, rfl⟩, hou, hb, hk⟩
  have hX1 := hk B 27 _ (by decide) (by decide) HX.out
  have d1 : w1.cell? ⟨B, 1, none⟩ = some (.int .i64 b) := hX1.cell 1
  have HO2 := Lib.hid (oint_any b HR.out.1 HR.out.2.1 (by rw [List.length_append]; have h0 := HL.out.1; have h1 : (Pk.nInt a).length ≤ 10 := HL.out.2.1; omega) hou)
  have HX1 := Lib.hid hX1
  have HBK1 := Lib.hid (And.intro (HBK.out.1.trans hb) (HBK.out.2.trans hk))
  clear HO hou hb hk hX1 HX HBK
  go_wp2_with fail
  refine (HO2.out).mono ?_
  rintro e w2 ⟨⟨_, rfl⟩, hou, hb, hk⟩
  have hX2 := hk B 27 _ (by decide) (by decide) HX1.out
  have d2 : w2.cell? ⟨B, 2, none⟩ = some (.int .u64 (c : Nat)) := hX2.cell 2
  have HO3 := Lib.hid (onum_any c HR.out.2.2 (by rw [List.length_append, List.length_append]; have h0 := HL.out.1; have h1 : (Pk.nInt a).length ≤ 10 := HL.out.2.1; have h2 : (Pk.nInt b).length ≤ 10 := HL.out.2.2; omega) hou)
  have HBK2 := Lib.hid (And.intro (HBK1.out.1.trans hb) (HBK1.out.2.trans hk))
  clear HO2 hou hb hk hX2 HX1 HBK1
  go_wp2_with fail
  refine (HO3.out).mono ?_
  rintro e w3 ⟨⟨_, rfl⟩, hou, hb, hk⟩
  have HD := Lib.hid (And.intro hou (And.intro (HBK2.out.1.trans hb) (HBK2.out.2.trans hk)))
  clear HO3 hou hb hk HBK2
  go_wp2
  go_end0
  exact ⟨⟨_, rfl⟩, by rw [HF.out]; exact HD.out.1, HD.out.2⟩

/-! ### all that was written -/
set_option maxHeartbeats 400000 in
theorem obytes_any {lo hi O : Nat} {l : List UInt8} {w : World} (hl : l.length ≤ 1000000) (h : Ou lo hi w O l) :
    Calls Tryz.prog 55 #[.pointer (some ⟨O, 0, none⟩)] w fun e w' => ∃ A' c', e = .returned (.slice A' l.length c') ∧ w'.ownsRow w.heap.size 5 1 (.slice A' l.length c') l.length (u8s l) ∧ Below w.heap.size w w' := by
  obtain ⟨A, c, hB, hA, hlo, hOh, hgh, hhs⟩ := h
  obtain ⟨A1, c1, e, _, _, hrd, hnil⟩ := own8 hA
  injection e with e1 e2 e3
  subst e1 e3
  obtain ⟨m, hm⟩ : ∃ m, m = l.length := ⟨_, rfl⟩
  have HC := Lib.hid (clone8_any A l m c w hm (by omega) hrd (by rw [hm]; exact hnil))
  rw [← hm] at hB ⊢
  have o0 : w.cell? ⟨O, 0, none⟩ = some (.slice A m c) := hB.cell 0
  clear hB hA hgh hrd hnil hm hl
  go_enter Tryz.func55, Tryz.ntmps55
  go_wp2_with fail
  refine (HC.out).mono ?_
  rintro e w1 ⟨A', c', rfl, ho, hb⟩
  have HO := Lib.hid (And.intro ho hb)
  clear ho hb HC
  go_wp2
  go_ret
  exact ⟨A', c', rfl, HO.out⟩
/-- A new Out. -/
theorem Ou.new (w : World) : Ou w.heap.size (w.heap.size + 1) (w.alloc (.cells #[.slice none 0 0] 93)) w.heap.size [] :=
  ⟨none, 0, blk_new w 93 _, World.ownsRow_nil _ _ _ _, Nat.le_refl _, by omega, fun g e => (by cases e), by simp⟩

end Go.Proofs.YtkicjjcangkneaaGreatDoor
