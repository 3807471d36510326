/-
  Package poly's split, whole: it appends the roots of a product of x less some numbers, no two the same, each once. For up to 300000 roots.
-/
import Derived.Test.YtalljoneflepiaaRsp
namespace Go.Proofs.Ytalljoneflepiaa
open Go.RowKit

theorem pow_bits (e : Nat) (heI : (e : Int) = 1152921504606846975) : e < 2 ^ 60 := by
  have h : (2 : Nat) ^ 60 = 1152921504606846976 := by decide +kernel
  omega

theorem one_less : ∃ pm : Nat, (pm : Int) = 2305843009213693950 ∧ pm < 2305843009213693951 ∧ Fld.to pm + 1 = 0 := ⟨2305843009213693950, rfl, by omega, Pl.to_less⟩
theorem co_one (x : Nat) : Pl.co [x] = Pl.C (Fld.to x) := by rw [Pl.co_cons, Pl.co_nil, Pl.sh_zero, Pl.add_zero]
theorem Pt.len {w : World} {A : Option Addr} {n c d : Nat} {l : List Nat} {s : Pl} (h : Pt w A n c l) (hi : Pl.Is l s) (hs : Pl.Dg s d) : n = d + 1 := h.1.trans (len_of_dg hi.1 (hi.2 ▸ hs))

set_option maxRecDepth 100000 in
set_option maxHeartbeats 8000000 in
theorem split_any (e : Nat) (he0 : 0 < e) (heI : (e : Int) = 1152921504606846975) (Br Bs lo : Nat) (hBr : Br < lo) (hBs : Bs < lo) (hne : Bs ≠ Br) :
    ∀ (j k : Nat), k + j = 2305843009213693951 → ∀ (F : Pl) (d : Nat) (A : Option Addr) (nf cf : Nat) (l : List Nat) (v : Value) (old : List Nat) (w : World), Pl.Spl e F d k → Pt w A nf cf l → Pl.Is l F → d ≤ 300000 → old.length + d ≤ 1000000 → lo ≤ w.heap.size →
      w.cell? ⟨Bs, 0, none⟩ = some (.func (.func 61) #[] #[.pointer (some ⟨Br, 0, none⟩), .pointer (some ⟨Bs, 0, none⟩)]) → RBox w Br lo v old →
      Calls Try.prog 61 #[.slice A nf cf, .int .u64 (k : Int), .pointer (some ⟨Br, 0, none⟩), .pointer (some ⟨Bs, 0, none⟩)] w (Splitted F Br lo v old w) := by
  intro j
  induction j with
  | zero =>
    intro k hk F d A nf cf l v old w hs hp hF hd hold hlo hcs hr
    have hnf : nf = d + 1 := hp.1.trans (len_of_dg hF.1 (hF.2 ▸ hs.dg))
    subst hnf
    match d, hs with
    | 0, hs => exact split_const Br Bs lo k F A cf v old w hs.dg hr
    | 1, hs => exact split_line Br Bs lo k F A cf l v old w hF hp hs.dg hs.one hBr hlo hold hr
    | d + 2, hs =>
      obtain ⟨x, y, h1, h2, h3⟩ := Pl.two_roots hs.full hs.dg (by omega)
      have := Pl.sep_end he0 hs.sep h1 h2 h3
      omega
  | succ j ih =>
    intro k hk F d A nf cf l v old w hs hp hF hd hold hlo hcs hr
    have hnf : nf = d + 1 := hp.1.trans (len_of_dg hF.1 (hF.2 ▸ hs.dg))
    subst hnf
    match d, hs with
    | 0, hs => exact split_const Br Bs lo k F A cf v old w hs.dg hr
    | 1, hs => exact split_line Br Bs lo k F A cf l v old w hF hp hs.dg hs.one hBr hlo hold hr
    | d + 2, hs =>
      have hpw := power_any k e 60 A (d + 2 + 1) cf l w (by omega) (by omega) (pow_bits e heI) (by omega) (fun W => by rw [heI]; exact len_half W) hp hF.1 (by omega) (by omega)
      obtain ⟨nf, hnf⟩ : ∃ nf, nf = d + 2 + 1 := ⟨_, rfl⟩
      rw [← hnf] at hp hpw ⊢
      have z1 : ((nf : Int) == 1) = false := by rw [beq_eq_false_iff_ne]; omega
      have z2 : ((nf : Int) == 2) = false := by rw [beq_eq_false_iff_ne]; omega
      rw [heI] at hpw
      have HPW := Lib.hid hpw
      have HS := Lib.hid hs
      have HP := Lib.hid hp
      have HF := Lib.hid hF
      have HR := Lib.hid hr
      have HIH := Lib.hid ih
      have HNF := Lib.hid hnf
      have HCS := Lib.hid hcs
      have hkl : k < 2305843009213693951 := by omega
      have hk1 : k + 1 + j = 2305843009213693951 := by omega
      have HK := Lib.hid hk1
      clear hpw hs hp hF hr ih hnf hcs hk hk1
      go_enter Try.func61, Try.ntmps61
      go_wp2_with fail
      refine HPW.out.mono ?_
      rintro e1 w1 ⟨⟨x, rfl, g1, n1, c1, L1, R, rfl, k1, k2, k3, k4, k5⟩, hb1⟩
      obtain ⟨pm, hpI, hpl, hpm⟩ := one_less
      have hba : Below w1.heap.size w1 (w1.alloc (.cells #[.int .u64 2305843009213693950] 23)) := (Below.refl _ w1).alloc (Nat.le_refl _) _
      have hrd := rd_one w1 pm
      rw [hpI] at hrd
      have kA := k2.below hba k2.lt
      have hn1 : n1 ≤ nf := k4
      have hadd := add_poly (some ⟨g1, 0, none⟩) (some ⟨w1.heap.size, 0, none⟩) n1 c1 1 1 (L1.take n1) [pm] _ kA.slice.symm rfl (by have := HNF.out; omega) (by omega) k3.1.big (by intro y hy; rw [List.mem_singleton.1 hy]; omega) kA.pt.2.1 hrd
      rw [k2.co, co_one] at hadd
      have hR := k2.po
      have hRl : Pl.Lt R nf := k2.lt_co.mono k4
      have HADD := Lib.hid hadd
      have HK5 := Lib.hid (And.intro hR (And.intro hRl (And.intro k5 hpm)))
      have hb1s := hb1.size
      have hb1a : Below w.heap.size w (w1.alloc (.cells #[.int .u64 2305843009213693950] 23)) := hb1.trans (hba.mono hb1s)
      clear k2 k3 k5 kA hrd hadd hba hR hRl hpm hpI hpl hb1
      go_wp2_with fail
      refine HADD.out.mono ?_
      rintro e2 w2 ⟨hg2, hb2⟩
      obtain ⟨g2, n2, c2, L2, rfl, hl2, ho2, ht2⟩ := hg2.own
      have hb02 : Below w.heap.size w w2 := hb1a.trans (hb2.mono (by simp; omega))
      have hn2 : n2 ≤ nf := ho2.len ht2 (HK5.out.2.1.add ((Pl.Lt.C _).mono (by have := HNF.out; omega)))
      have hp2 := HP.out.below hb02
      have hgc := gcd_poly A (some ⟨g2, 0, none⟩) nf cf n2 c2 l (L2.take n2) w2 hp2.1 ho2.slice.symm (by have := HNF.out; omega) (by have := HNF.out; omega) HF.out.1.1.big ht2.1.big hp2.2.1 ho2.pt.2.1
      rw [ho2.co, HF.out.2] at hgc
      have HGC := Lib.hid hgc
      have hb2s := hb02.size
      clear hg2 ho2 ht2 hgc hp2 hb2 hb1a HADD
      go_wp2_with fail
      refine HGC.out.mono ?_
      rintro e3 w3 ⟨⟨G, ⟨A3, n3, c3, l3, rfl, hp3, hi3, hf3⟩, hG⟩, hb3⟩
      obtain ⟨q, d1, d2, hDM, hdd, hs1, hs2, hq, hfq, hdis⟩ := Pl.Spl.step HK5.out.2.2.2 HS.out HK5.out.1 (HF.out.2 ▸ HK5.out.2.2.1) hG
      have hb03 : Below w.heap.size w w3 := hb02.trans (hb3.mono hb2s)
      have hn3 : n3 = d1 + 1 := hp3.len hi3 hs1.dg
      have hp3f := HP.out.below hb03
      have hdd1 : d1 ≤ d + 2 := by omega
      have hdd2 : d2 ≤ d + 2 := by omega
      have HDD := Lib.hid hdd
      have hn3l : n3 ≤ 1000000 := by omega
      have hdm := divmod_poly A A3 nf cf n3 c3 l l3 w3 hp3f.1 hp3.1 (by have := HNF.out; omega) hn3l HF.out.1.1.big hi3.1.1.big hp3f.2.1 hp3.2.1
      have HDM := Lib.hid hdm
      have K3 := Lib.hid (And.intro hp3 (And.intro hi3 (And.intro hDM (And.intro hs1 (And.intro hs2 (And.intro hq (And.intro hfq hdis)))))))
      have hb3s := hb03.size
      have HG1 := Lib.hid hG.1
      clear hp3 hi3 hDM hs1 hs2 hq hfq hdis hp3f hdm hG hb3 hb02 HGC HK5 hdd hn3
      go_wp2_with fail
      refine HDM.out.mono ?_
      rintro e4 w4 ⟨⟨A4, n4, c4, l4, A5, n5, c5, l5, rfl, hp4, hp5, ht4, ht5, hz4, hnz4, hf4⟩, hb4⟩
      have hG0 : Pl.co l3 ≠ 0 := by rw [K3.out.2.1.2]; exact K3.out.2.2.2.1.dg.ne
      have hDM4 := hnz4 hG0
      rw [K3.out.2.1.2, HF.out.2] at hDM4
      have hq4 := (Pl.DM.uniq HG1.out K3.out.2.2.2.1.dg.ne hDM4 K3.out.2.2.1).1
      have hb04 : Below w.heap.size w w4 := hb03.trans (hb4.mono hb3s)
      have hcs4 := (hb04.cell (p := ⟨Bs, 0, none⟩) (by show Bs < w.heap.size; omega)).trans HCS.out
      have hr4 := HR.out.below hb04
      have hp34 := K3.out.1.below hb4
      have hb4s := hb04.size
      obtain ⟨k1, hk1⟩ : ∃ k1, k1 = k + 1 := ⟨_, rfl⟩
      have hcc : (k : Int) + 1 = (k1 : Int) := by omega
      have hwk : IntKind.u64.wrap (k1 : Int) = (k1 : Int) := by rw [IntKind.wrap_u64]; omega
      have HK1 := Lib.hid hk1
      have hc1 := HIH.out k1 (by rw [hk1]; exact HK.out) G d1 A3 n3 c3 l3 v old w4 (hk1 ▸ K3.out.2.2.2.1) hp34 K3.out.2.1 (by omega) (by omega) (by omega) hcs4 hr4
      have HC1 := Lib.hid hc1
      have K4 := Lib.hid (And.intro hp4 (And.intro ht4 (And.intro hq4 hf4)))
      have HR4 := Lib.hid hr4
      clear hp4 hp5 ht4 ht5 hz4 hnz4 hf4 hG0 hDM4 hq4 hr4 hp34 hc1 hb4 HDM hk1
      go_wp2_with fail
      refine HC1.out.mono ?_
      rintro e5 w5 ⟨⟨r5, rfl⟩, ⟨v5, rs1, hr5, hrf5, hov5⟩, hfx5⟩
      have hle1 := hrf5.len K3.out.2.2.2.1.dg
      have hX : ∀ b, w.heap.size ≤ b → ¬ (b = Br ∨ some b = v.ownBlock) := fun b hb h => by
        rcases h with h | h
        · omega
        · have := (own_ge HR.out.2.2.2 h).2; omega
      have hcs5 := (hfx5.cell (p := ⟨Bs, 0, none⟩) (by show Bs < w4.heap.size; omega) (by
        show ¬ (Bs = Br ∨ some Bs = v.ownBlock)
        rintro (h | h)
        · exact hne h
        · have := (own_ge HR.out.2.2.2 h).1; omega)).trans hcs4
      have hp45 := K4.out.1.fx hfx5 (fun bl off e => hX bl (Nat.le_trans hb3s (K4.out.2.2.2 bl off e)))
      have hi45 : Pl.Is l4 q := ⟨K4.out.2.1, K4.out.2.2.1⟩
      have hs5 := hfx5.size
      have hc2 := HIH.out k1 (by rw [HK1.out]; exact HK.out) q d2 A4 n4 c4 l4 v5 (old ++ rs1) w5 (HK1.out ▸ K3.out.2.2.2.2.1) hp45 hi45 (by omega) (by rw [List.length_append]; have := HDD.out; omega) (by omega) hcs5 hr5
      have HC2 := Lib.hid hc2
      have K5 := Lib.hid (And.intro hr5 (And.intro hrf5 (And.intro hov5 hfx5)))
      clear hr5 hrf5 hov5 hfx5 hp45 hi45 hc2 HC1 hle1 hcs4
      go_wp2_with fail
      refine HC2.out.mono ?_
      rintro e6 w6 ⟨⟨r6, rfl⟩, ⟨v6, rs2, hr6, hrf6, hov6⟩, hfx6⟩
      have K6 := Lib.hid (And.intro hr6 (And.intro hrf6 (And.intro hov6 hfx6)))
      clear hr6 hrf6 hov6 hfx6 HC2 hcs5
      go_wp2
      go_end0
      obtain ⟨hr5, hrf5, hov5, hfx5⟩ := K5.out
      obtain ⟨hr6, hrf6, hov6, hfx6⟩ := K6.out
      obtain ⟨_, _, _, hs1, hs2, hq, hfq, hdis⟩ := K3.out
      have f1 : Fx w.heap.size (fun b => b = Br ∨ some b = v.ownBlock) w w4 := Fx.of_below hb04 (fun b hb _ => hb)
      have f2 := hfx5.mono (m := w.heap.size) (Y := fun b => b = Br ∨ some b = v.ownBlock) (fun b hb hx => ⟨by omega, hx⟩)
      have f3 := hfx6.mono (m := w.heap.size) (Y := fun b => b = Br ∨ some b = v.ownBlock) (fun b hb hx => ⟨by omega, fun h => by
        rcases h with h | h
        · exact hx (.inl h)
        · rcases hov5 b h with h1 | h1
          · exact hx (.inr h1)
          · omega⟩)
      refine ⟨⟨_, rfl⟩, ⟨v6, rs1 ++ rs2, by rw [← List.append_assoc]; exact hr6, Pl.Rof.mul HG1.out hq hfq hrf5 hrf6 hdis, fun b hb => ?_⟩, (f1.trans f2).trans f3⟩
      rcases hov6 b hb with h1 | h1
      · rcases hov5 b h1 with h2 | h2
        · exact .inl h2
        · exact .inr (by omega)
      · exact .inr (by omega)
end Go.Proofs.Ytalljoneflepiaa
