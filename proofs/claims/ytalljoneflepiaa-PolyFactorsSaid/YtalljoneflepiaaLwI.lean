/-
  PolyFactors: x less a root divides what it is a root of, and nothing else of that form; there are no more roots than the degree, and those of a product are those of both.
-/
import Derived.Test.YtalljoneflepiaaLwf
namespace Go.Proofs.Ytalljoneflepiaa
open Go.RowKit

/-- What the sort leaves, in memory of its own. -/
def SortedO (s : Pl) (Br lo : Nat) (v : Value) (w : World) (e : Ending) (w' : World) : Prop :=
  (∃ r, e = .returned r) ∧ w'.cell? ⟨Br, 0, none⟩ = some v ∧ (∃ rs, Gl lo w' v rs ∧ Pl.Rof s rs ∧ Up rs) ∧ Below lo w w'
theorem rt_sortO {s : Pl} {Br lo : Nat} {w : World} (h : RtW s Br lo w) (hBr : Br < lo) (hlo : lo ≤ w.heap.size) : ∃ v, w.cell? ⟨Br, 0, none⟩ = some v ∧ Calls Try.prog 64 #[v] w (SortedO s Br lo v w) := by
  obtain ⟨v, rs, ⟨h1, h2, ⟨A, c, rfl⟩, h3, h4⟩, h5, h6⟩ := h
  refine ⟨_, h1, ?_⟩
  rcases Nat.eq_zero_or_pos rs.length with h0 | h0
  · have hnil : rs = [] := List.eq_nil_of_length_eq_zero h0
    subst hnil
    refine (sort_none A c w).mono ?_
    rintro e w' ⟨h7, h8⟩
    exact ⟨h7, (h8.cell (p := ⟨Br, 0, none⟩) (by show Br < w.heap.size; omega)).trans h1, ⟨[], ⟨A, c, rfl, own_below ⟨h3, h4⟩ h8⟩, h5, List.Pairwise.nil⟩, h8.mono hlo⟩
  · rcases h4 with ⟨_, e2⟩ | ⟨g, cap, cur, e2, g1, g2, g3, g4, g5, g6⟩
    · omega
    · injection e2 with e2 e3 e4
      subst e2 e4
      have hax : Ax w g rs (cur.toList.drop (rs.length * 1)) := by
        unfold Ax Blk
        rw [← g6, List.take_append_drop]
        exact g2
      refine (sort_any g rs.length c rs _ w hax rfl h0 h6 h5.1.big).mono ?_
      rintro e w' ⟨h7, ⟨L, h8, h9, h10⟩, h11⟩
      have hLl := h9.length_eq
      refine ⟨h7, (World.cell?_of_block (a := ⟨Br, 0, none⟩) (h11.block Br (by omega) (by intro e; injection e with e; omega))).trans h1, ⟨L, ⟨_, c, by rw [hLl], by rw [u64s_len, Nat.mul_one], .inr ⟨g, c, _, by rw [hLl], g1, h8, by omega, g4, ?_, ?_⟩⟩, h5.perm h9, h10⟩, ⟨h11.os, h11.tape, h11.output, h11.size, fun k hk => h11.block k (by omega) (by intro e; injection e with e; omega)⟩⟩
      · simp only [List.size_toArray, List.length_append, u64s_len, List.length_drop, Array.length_toList]; omega
      · rw [List.toList_toArray, Nat.mul_one, List.take_left' (by rw [u64s_len])]
/-- What Roots tells, of a polynomial that is not 0. -/
def RootsO (lo : Nat) (s : Pl) (e : Ending) (w' : World) : Prop := ∃ z rs, e = .returned z ∧ Gl lo w' z rs ∧ Pl.Rof s rs ∧ Up rs
theorem Gl.base_ {B B' : Nat} {w : World} {o : Value} {L : List Nat} (h : Gl B w o L) (hB : B' ≤ B) : Gl B' w o L := by
  obtain ⟨A, c, e, h1, h2⟩ := h
  refine ⟨A, c, e, h1, ?_⟩
  rcases h2 with h2 | ⟨g, cap, cur, h3, h4, h5⟩
  · exact .inl h2
  · exact .inr ⟨g, cap, cur, h3, Nat.le_trans hB h4, h5⟩

set_option maxRecDepth 100000 in
set_option maxHeartbeats 4000000 in
theorem roots_own (A : Option Addr) (la ca : Nat) (a : List Nat) (w : World) (hn : la = a.length) (hla : la ≤ 13) (ha : ∀ y ∈ a, y < 18446744073709551616) (hA : Rd w.heap.size w A (u64s a)) (hne : Pl.co a ≠ 0) :
    Calls Try.prog 36 #[.slice A la ca] w fun e w' => RootsO w.heap.size (Pl.co a) e w' ∧ Below w.heap.size w w' := by
  obtain ⟨ex, hex⟩ : ∃ ex : Nat, (ex : Int) = 1152921504606846975 := ⟨1152921504606846975, rfl⟩
  have HEX := Lib.hid hex
  have hex0 : 0 < ex := by omega
  clear hex
  have h1 := trim_poly A la ca a w hn (by omega) ha hA
  have H1 := Lib.hid h1
  have HA := Lib.hid (hn ▸ hla : a.length ≤ 13)
  have HNE := Lib.hid hne
  clear h1 hn ha hA hne
  go_enter Try.func36, Try.ntmps36
  go_wp2_with fail
  refine H1.out.mono ?_
  rintro e w1 ⟨hg1, hb1⟩
  obtain ⟨g1, n1, c1, L1, rfl, hl1, ho1, ht1⟩ := hg1.own
  have hn1 : n1 ≤ 13 := Nat.le_trans (ho1.len ht1 (Pl.Lt.co a)) HA.out
  have HO1 := Lib.hid ho1
  have HT1 := Lib.hid ht1
  clear hg1 ho1 ht1
  rcases Nat.eq_zero_or_pos n1 with h0 | h0
  · subst h0
    have hz : Pl.co a = 0 := (HO1.out.zero HT1.out).1 rfl
    have HZ := Lib.hid hz
    clear hz
    exact absurd HZ.out HNE.out
  · have z1 : ((n1 : Int) == 0) = false := by rw [beq_eq_false_iff_ne]; omega
    have hnz : Pl.co a ≠ 0 := fun h => by have := (HO1.out.zero HT1.out).2 h; omega
    have HNZ := Lib.hid hnz
    clear hnz
    go_upto_region 7 with (fail)
    have hB := rt_box w1 (.func (.func 61) #[] #[.pointer (some ⟨w1.heap.size, 0, none⟩), .pointer (some ⟨w1.heap.size + 1, 0, none⟩)])
    have hC : ((w1.alloc (.cells #[.slice none 0 0] 22)).alloc (.cells #[.func (.func 61) #[] #[.pointer (some ⟨w1.heap.size, 0, none⟩), .pointer (some ⟨w1.heap.size + 1, 0, none⟩)]] 52)).cell? ⟨w1.heap.size + 1, 0, none⟩ =
        some (.func (.func 61) #[] #[.pointer (some ⟨w1.heap.size, 0, none⟩), .pointer (some ⟨w1.heap.size + 1, 0, none⟩)]) := by
      have h := (cell_new_l (w1.alloc (.cells #[.slice none 0 0] 22)) (.func (.func 61) #[] #[.pointer (some ⟨w1.heap.size, 0, none⟩), .pointer (some ⟨w1.heap.size + 1, 0, none⟩)]) 52).1
      rwa [show (w1.alloc (.cells #[.slice none 0 0] 22)).heap.size = w1.heap.size + 1 by simp] at h
    have hD : Below w1.heap.size w1 ((w1.alloc (.cells #[.slice none 0 0] 22)).alloc (.cells #[.func (.func 61) #[] #[.pointer (some ⟨w1.heap.size, 0, none⟩), .pointer (some ⟨w1.heap.size + 1, 0, none⟩)]] 52)) := ((Below.refl _ w1).alloc (Nat.le_refl _) _).alloc (by simp) _
    have hE : ((w1.alloc (.cells #[.slice none 0 0] 22)).alloc (.cells #[.func (.func 61) #[] #[.pointer (some ⟨w1.heap.size, 0, none⟩), .pointer (some ⟨w1.heap.size + 1, 0, none⟩)]] 52)).heap.size = w1.heap.size + 2 := by simp
    obtain ⟨w2, hw2⟩ : ∃ w2, w2 = ((w1.alloc (.cells #[.slice none 0 0] 22)).alloc (.cells #[.func (.func 61) #[] #[.pointer (some ⟨w1.heap.size, 0, none⟩), .pointer (some ⟨w1.heap.size + 1, 0, none⟩)]] 52)) := ⟨_, rfl⟩
    rw [← hw2] at hB hC hD hE
    rw [← hw2]
    have HP := Lib.hid (root_pow2 g1 n1 c1 L1 (Pl.co a) w1 w2 hD HO1.out HT1.out h0 hn1)
    have HG := Lib.hid (root_gcd2 ex g1 n1 c1 L1 (Pl.co a) w1 w2 hD HO1.out HT1.out HNZ.out hn1)
    have HS := Lib.hid (root_split2 ex hex0 HEX.out (Pl.co a) w w1 w2 hb1 hD hE hC hB)
    have HAD := Lib.hid (root_add2 (Pl.co a) w2)
    have HE := Lib.hid hE
    have hlt : w1.heap.size < w2.heap.size := by omega
    have hr0 : Below w2.heap.size w2 w2 := Below.refl _ _
    clear hB hE hw2 hD
    go_cut [] (fun wx => ∃ W : World, W = wx ∧ RtE (Pl.co a) w1.heap.size w2.heap.size w.heap.size w W ∧ w2.heap.size ≤ W.heap.size)
    case first =>
      go_region_held3 (fun w' : World => w'.cell? ⟨w1.heap.size + 1, 0, none⟩ = some (.func (.func 61) #[] #[.pointer (some ⟨w1.heap.size, 0, none⟩), .pointer (some ⟨w1.heap.size + 1, 0, none⟩)]))
        ((first | assumption | exact ((by (repeat (first | assumption | exact Below.refl _ _ | refine below_to_drew ?_ | refine below_allocS ?_ _)) : Below w2.heap.size w2 _).cell (p := ⟨w1.heap.size + 1, 0, none⟩) (by show w1.heap.size + 1 < w2.heap.size; have := HE.out; omega)).trans hC))
        (first
          | (go_at_call 63; ((with_reducible refine (HP.out _ (by (repeat (first | assumption | exact Below.refl _ _ | refine below_to_drew ?_ | refine below_allocS ?_ _)))).mono ?_); rintro e w3 ⟨⟨x3, rfl, hx3⟩, hb3, hb3W⟩))
          | (go_at_call 16; have q1 := HAD.out (w3.alloc (.cells #[.int .u64 0, .int .u64 2305843009213693950] 23)) (below_allocS hb3 _) x3 w3.heap.size (hx3.below ((Below.refl _ _).alloc (Nat.le_refl _) _)) (rd_pairP w3); ((with_reducible refine q1.mono ?_); rintro e w4 ⟨⟨x4, rfl, hx4⟩, hb4⟩))
          | (go_at_call 16; have q1 := HAD.out w3 hb3 x3 w2.heap.size hx3 (((rd_pairD w2).below hb3W).more hb3W.size); ((with_reducible refine q1.mono ?_); rintro e w4 ⟨⟨x4, rfl, hx4⟩, hb4⟩))
          | (go_at_call 26; ((with_reducible refine (HG.out _ hb4 x4 hx4).mono ?_); rintro e w5 ⟨⟨x5, rfl, hx5⟩, hb5⟩))
          | (go_at_call 61; ((with_reducible refine (HS.out _ hb5 x5 hx5).mono ?_); rintro e w6 ⟨⟨r6, rfl⟩, hr6, hcs6, hz6⟩)))
      all_goals (go_wp2_with fail; go_meet; exact ⟨_, rfl, hr6, hz6⟩)
    case rest =>
      obtain ⟨W, rfl, hRt, hzW⟩ := hcut
      obtain ⟨v, hv, hcall⟩ := rt_sortO hRt.1 hlt hzW
      have HV := Lib.hid hv
      have HCL := Lib.hid hcall
      clear hcall hC
      go_wp2_with fail
      refine HCL.out.mono ?_
      rintro e w9 ⟨⟨r, rfl⟩, hv9, hs9, hb9⟩
      have HS9 := Lib.hid hs9
      have hb0 : Below w.heap.size w w9 := hRt.2.trans (hb9.mono (by have := hRt.2.size; have := hb1.size; have := HE.out; omega))
      clear hs9 hb9
      go_wp2
      obtain ⟨rs, hg9, hr9, hu9⟩ := HS9.out
      have hlo : w.heap.size ≤ w2.heap.size := by have := hb1.size; omega
      have HF := Lib.hid (And.intro (hg9.base_ hlo) (And.intro hr9 hu9))
      clear hg9 hr9 hu9 HS9 hv hv9 HCL HV
      go_ret
      exact ⟨⟨v, rs, rfl, HF.out⟩, hb0⟩
end Go.Proofs.Ytalljoneflepiaa

namespace Go.Proofs.Ytalljoneflepiaa
open Go.RowKit

section
variable {w : World} {o o2 : Value} {s : Pl} {d k : Nat}
theorem roots_ov (h : Qv w o s d) (hd : d ≤ 13) (h0 : s ≠ 0) : Calls Try.prog 36 #[o] w fun e w' => (∃ z rs, e = .returned z ∧ Gl w.heap.size w' z rs ∧ Pl.Rof s rs) ∧ Below w.heap.size w w' := by
  obtain ⟨A, n, c, l, rfl, h1, h2, h3, rfl⟩ := h
  refine (roots_own A n c l w h1.1 (by omega) h2 h1.2.1 h0).mono ?_
  rintro e w' ⟨⟨z, rs, rfl, hg, hr, _⟩, hb⟩
  exact ⟨⟨z, rs, rfl, hg, hr⟩, hb⟩
theorem roots_lv (h : Qv w o s d) (hd : d ≤ 13) (h0 : s ≠ 0) : Calls Try.prog 36 #[o] w fun e w' => (∃ A n c rs, e = .returned (.slice A n c) ∧ Rv w' (.slice A n c) s ∧ Pt w' A n c rs ∧ Pl.Rof s rs ∧ n < d) ∧ Below w.heap.size w w' := by
  obtain ⟨m, hm, hg⟩ := Pl.dg_of d s h.lt h0
  obtain ⟨A, n, c, l, rfl, h1, h2, h3, rfl⟩ := h
  refine (roots_any A n c l w h1.1 (by omega) h2 h1.2.1).mono ?_
  rintro e w' ⟨⟨A', n', c', rs, rfl, hp, _, hr⟩, hb⟩
  have hr := hr h0
  have := hr.1.len hg
  have := hp.1
  exact ⟨⟨A', n', c', rs, rfl, ⟨A', n', c', rs, rfl, hp, hr.1, hr.2.rise hr.1.2.1⟩, hp, hr.1, by omega⟩, hb⟩
theorem divf_v {x : Nat} (h : Qv w o s d) (h' : Qv w o2 (Pl.prodR [x]) k) (hd : d ≤ 100000) (hk : k ≤ 100000) : Calls Try.prog 24 #[o, o2] w fun e w' => (∃ z A n c, e = .returned (.tuple #[z, .slice A n c]) ∧ (n = 0 ↔ vl s x = 0)) ∧ Below w.heap.size w w' := by
  have hps := h.po
  refine (divmod_v h h' hd hk).mono ?_
  rintro e w' ⟨⟨z, z2, q, r, rfl, hz, hr, _, hdm⟩, hb⟩
  have e1 : Pl.prodR [x] = Pl.lin (Fld.to x) := Pl.mul_one _
  have hne : Pl.prodR [x] ≠ 0 := (Pl.Dg.prodR [x]).1.ne
  have hdm := hdm hne
  rw [e1] at hdm hne
  obtain ⟨A, n, c, rfl, _, hn, _⟩ := hr.open_
  refine ⟨⟨z, A, n, c, rfl, ?_⟩, hb⟩
  rw [hn, vl_zero, ← Pl.dv_lin hps]
  constructor
  · intro h0
    exact ⟨q, hdm.1, by rw [hdm.2.2.1, h0, Pl.add_zero, Pl.mul_comm]⟩
  · rintro ⟨q', hq', e'⟩
    exact (hdm.uniq (Pl.Po.lin _) hne ⟨hq', Pl.Po.zero, by rw [Pl.add_zero, Pl.mul_comm]; exact e', fun n _ => Pl.Lt.zero n⟩).2
theorem evalz_v (h : Qv w o s d) (hd : d ≤ 100000) (x : Nat) (hx : x < 18446744073709551616) : Calls Try.prog 20 #[o, .int .u64 (x : Int)] w fun e w' => (∃ v : Nat, e = .returned (.int .u64 (v : Int)) ∧ v = vl s x) ∧ Below w.heap.size w w' :=
  (eval_v h hd x hx).mono fun _ _ ⟨e, b⟩ => ⟨⟨_, e, rfl⟩, b⟩
theorem nv_one (w : World) (x : Nat) (hx : x < 18446744073709551616) : Nv (w.alloc (.cells #[.int .u64 (x : Int)] 23)) (.slice (some ⟨w.heap.size, 0, none⟩) 1 1) [x] 1 :=
  ⟨_, 1, 1, rfl, ⟨rfl, rd_news w [x], Nat.le_refl _, fun e => by cases e⟩, by intro y hy; rw [List.mem_singleton.1 hy]; exact hx, Nat.le_refl _⟩
end
theorem rof_lenI {w : World} {o : Value} {s : Pl} {d : Nat} (h : Qv w o s d) (h0 : s ≠ 0) (hd : d ≤ 1000) : ∀ rs, Pl.Rof s rs → rs.length ≤ 1000 := fun rs hr => by
  obtain ⟨m, hm, hg⟩ := Pl.dg_of d s h.lt h0
  have := hr.len hg
  omega
theorem co_append_left (a b : List Nat) {j : Nat} (h : j < a.length) : Pl.co (a ++ b) j = Pl.co a j := by rw [Pl.co_at, Pl.co_at, List.getElem?_append_left h]
theorem co_append_right (a b : List Nat) (j : Nat) : Pl.co (a ++ b) (a.length + j) = Pl.co b j := by rw [Pl.co_at, Pl.co_at, List.getElem?_append_right (by omega), Nat.add_sub_cancel_left]
theorem rof_ex {s : Pl} {rs : List Nat} (h : Pl.Rof s rs) (x : Nat) : Pl.val s (Fld.to x) = 0 ↔ ∃ j, j < rs.length ∧ Fld.to x = Pl.co rs j := by
  have hx : Fld.to (x % Fld.P) = Fld.to x := Fld.to_mod x
  have hxl : x % Fld.P < 2305843009213693951 := Nat.mod_lt _ (by decide)
  rw [← hx, ← h.2.2 _ hxl, mem_getD]
  constructor
  · rintro ⟨j, hj, e⟩; exact ⟨j, hj, by rw [← e]; rfl⟩
  · rintro ⟨j, hj, e⟩; exact ⟨j, hj, (Pl.to_inj' hxl (h.1.get j) e).symm⟩
theorem ro_both {p q : Pl} {a b : List Nat} (hp : Pl.Po p) (hq : Pl.Po q) (ha : Pl.Rof p a) (hb : Pl.Rof q b) : Ro (p * q) (a ++ b) := fun x => by
  rw [Pl.val_mul hp hq, Fld.mul_eq_zero, rof_ex ha, rof_ex hb]
  constructor
  · rintro (⟨j, hj, e⟩ | ⟨j, hj, e⟩)
    · exact ⟨j, by rw [List.length_append]; omega, by rw [co_append_left _ _ hj]; exact e⟩
    · exact ⟨a.length + j, by rw [List.length_append]; omega, by rw [co_append_right]; exact e⟩
  · rintro ⟨j, hj, e⟩
    rw [List.length_append] at hj
    rcases Nat.lt_or_ge j a.length with h | h
    · rw [co_append_left _ _ h] at e; exact .inl ⟨j, h, e⟩
    · obtain ⟨i, rfl⟩ : ∃ i, j = a.length + i := ⟨j - a.length, by omega⟩
      rw [co_append_right] at e
      exact .inr ⟨i, by omega, e⟩

set_option maxRecDepth 100000 in
set_option maxHeartbeats 8000000 in
theorem factors_walk (A A2 : Option Addr) (n c m c2 x : Nat) (l l2 : List Nat) (w : World) (hA : In w A n c l) (hB : In w A2 m c2 l2) (hx : x < 18446744073709551616) :
    Calls Try.prog 10 #[.slice A n c, .slice A2 m c2, .int .u64 (x : Int)] w fun e w' => e = .returned (.bool true) ∧ Below w.heap.size w w' := by
  have A0 := Lib.hid hA
  have B0 := Lib.hid hB
  have hk0 : Below w.heap.size w w := Below.refl _ _
  clear hA hB
  go_enter Try.func10, Try.ntmps10
  go_wp2_with fail
  refine (nums_v A0.out 4 (by omega)).mono ?_
  rintro e w1 ⟨⟨z, rfl, h⟩, hb1⟩
  have hk1 := kept_trans hk0 hb1
  have B1 := Lib.hid (B0.out.below hb1)
  have X1 := Lib.hid h
  clear hb1 hk0 A0 B0 h
  go_wp2_with fail
  refine (trim_v X1.out (by omega)).mono ?_
  rintro e w2 ⟨⟨p, rfl, h⟩, hb2⟩
  obtain ⟨Ap, np, cp, rfl, hp9, hp0, hpd⟩ := h.open_
  have hk2 := kept_trans hk1 hb2
  have B2 := Lib.hid (B1.out.below hb2)
  have P2 := Lib.hid h
  have PZ := Lib.hid hp0
  have PD := Lib.hid hpd
  clear hb2 hk1 B1 X1 h hp0 hpd
  go_wp2_with fail
  refine (nums_v B2.out 4 (by omega)).mono ?_
  rintro e w3 ⟨⟨z, rfl, h⟩, hb3⟩
  have hk3 := kept_trans hk2 hb3
  have P3 := Lib.hid (P2.out.below hb3)
  have X3 := Lib.hid h
  clear hb3 hk2 B2 P2 h
  go_wp2_with fail
  refine (trim_v X3.out (by omega)).mono ?_
  rintro e w4 ⟨⟨q, rfl, h⟩, hb4⟩
  obtain ⟨Aq, nq, cq, rfl, hq9, hq0, -⟩ := h.open_
  have hk4 := kept_trans hk3 hb4
  have P4 := Lib.hid (P3.out.below hb4)
  have Q4 := Lib.hid h
  have QZ := Lib.hid hq0
  clear hb4 hk3 P3 X3 h hq0
  obtain ⟨p, hp⟩ : ∃ p, p = Pl.co (l.take 4) := ⟨_, rfl⟩
  obtain ⟨q, hq⟩ : ∃ q, q = Pl.co (l2.take 4) := ⟨_, rfl⟩
  rw [← hp] at P4 PZ PD
  rw [← hq] at Q4 QZ
  clear hp hq
  go_wp2_with fail
  refine (of_v (nv_one w4 x hx) (by omega)).mono ?_
  rintro e w5 ⟨⟨z, rfl, h⟩, hb5⟩
  have hk5 := kept_trans hk4 (below_new hb5)
  have P5 := Lib.hid (P4.out.below (below_new hb5))
  have Q5 := Lib.hid (Q4.out.below (below_new hb5))
  have L5 := Lib.hid h
  clear hb5 hk4 P4 Q4 h
  go_wp2_with fail
  refine (divf_v P5.out.q L5.out.q (by omega) (by omega)).mono ?_
  rintro e w6 ⟨⟨z, A3, n3, c3, rfl, h3⟩, hb6⟩
  have hk6 := kept_trans hk5 hb6
  have P6 := Lib.hid (P5.out.below hb6)
  have Q6 := Lib.hid (Q5.out.below hb6)
  clear hb6 hk5 P5 Q5 L5
  go_wp2_with fail
  refine (evalz_v P6.out.q (by omega) x hx).mono ?_
  rintro e w7 ⟨⟨v, rfl, hv⟩, hb7⟩
  obtain ⟨b, hb⟩ : ∃ b, b = decide (v = 0) := ⟨_, rfl⟩
  have t1 : ((n3 : Int) == 0) = b := by rw [hb, Bool.eq_iff_iff, beq_iff_eq, decide_eq_true_iff, hv, ← h3]; omega
  have t2 : ((v : Int) == 0) = b := by rw [hb, Bool.eq_iff_iff, beq_iff_eq, decide_eq_true_iff]; omega
  have t3 : (b != b) = false := by cases b <;> rfl
  clear hb hv h3
  have hk7 := kept_trans hk6 hb7
  have P7 := Lib.hid (P6.out.below hb7)
  have Q7 := Lib.hid (Q6.out.below hb7)
  clear hb7 hk6 P6 Q6
  rcases (show np = 0 ∨ (0 < np ∧ nq = 0) ∨ (0 < np ∧ 0 < nq) from by omega) with h1 | ⟨h1, h2⟩ | ⟨h1, h2⟩
  · have P0 := Lib.hid (PZ.out.1 h1)
    subst h1
    go_wp2_with fail
    refine (mul_v P7.out.q Q7.out.q (by omega) (by omega)).mono ?_
    rintro e w8 ⟨⟨z, rfl, h⟩, hb8⟩
    have hk8 := kept_trans hk7 hb8
    have D8 := Lib.hid h
    clear hb8 hk7 P7 Q7 h
    go_wp2_with fail
    refine (roots0_v (D8.out.to (by rw [P0.out, Pl.zero_mul])).q (by omega)).mono ?_
    rintro e w9 ⟨⟨A5, c5, rfl⟩, hb9⟩
    have hk9 := kept_trans hk8 hb9
    clear hb9 hk8 D8
    go_wp2_with fail
    refine (lives_any w9).mono ?_
    rintro e w10 ⟨rfl, hb10⟩
    have hk10 := kept_trans hk9 hb10
    clear hb10 hk9
    go_wp2
    go_ret
    exact ⟨rfl, hk10⟩
  · have Q0 := Lib.hid (QZ.out.1 h2)
    subst h2
    have t4 : ((np : Int) == 0) = false := by rw [beq_eq_false_iff_ne]; omega
    go_wp2_with fail
    refine (mul_v P7.out.q Q7.out.q (by omega) (by omega)).mono ?_
    rintro e w8 ⟨⟨z, rfl, h⟩, hb8⟩
    have hk8 := kept_trans hk7 hb8
    have D8 := Lib.hid h
    clear hb8 hk7 P7 Q7 h
    go_wp2_with fail
    refine (roots0_v (D8.out.to (by rw [Q0.out, Pl.mul_zero])).q (by omega)).mono ?_
    rintro e w9 ⟨⟨A5, c5, rfl⟩, hb9⟩
    have hk9 := kept_trans hk8 hb9
    clear hb9 hk8 D8
    go_wp2_with fail
    refine (lives_any w9).mono ?_
    rintro e w10 ⟨rfl, hb10⟩
    have hk10 := kept_trans hk9 hb10
    clear hb10 hk9
    go_wp2
    go_ret
    exact ⟨rfl, hk10⟩
  · have t4 : ((np : Int) == 0) = false := by rw [beq_eq_false_iff_ne]; omega
    have t5 : ((nq : Int) == 0) = false := by rw [beq_eq_false_iff_ne]; omega
    have PK := P7
    have QK := Q7
    have hkw := hk7
    have P0 := Lib.hid (fun h => by have := PZ.out.2 h; omega : p ≠ 0)
    have Q0 := Lib.hid (fun h => by have := QZ.out.2 h; omega : q ≠ 0)
    have hkeep : Below w7.heap.size w7 w7 := Below.refl _ _
    go_wp2_with fail
    refine (roots_ov P7.out.q (by omega) P0.out).mono ?_
    rintro e w8 ⟨⟨z1, rs1, rfl, h, hr1⟩, hb8⟩
    have hkp1 := hb8
    have hk8 := kept_trans hk7 hb8
    have P8 := Lib.hid (P7.out.below hb8)
    have Q8 := Lib.hid (Q7.out.below hb8)
    have G8 := Lib.hid h
    have R1 := Lib.hid hr1
    clear hb8 hk7 P7 Q7 h hr1
    go_wp2_with fail
    refine (roots_ov Q8.out.q (by omega) Q0.out).mono ?_
    rintro e w9 ⟨⟨z2, rs2, rfl, h, hr2⟩, hb9⟩
    have hkp2 := kept_trans hkp1 hb9
    have hk9 := kept_trans hk8 hb9
    have P9 := Lib.hid (P8.out.below hb9)
    have Q9 := Lib.hid (Q8.out.below hb9)
    have G9 := Lib.hid (G8.out.below hb9)
    have H9 := Lib.hid h
    have R2 := Lib.hid hr2
    clear hb9 hk8 P8 Q8 G8 h hr2
    obtain ⟨A2, c2, rfl, hp2, _⟩ := H9.out.pt
    have hnil := hp2.2.2.2
    have HP2 := Lib.hid hp2
    have HSZ := hkp2.size
    have hl1 : rs1.length ≤ 4 := by obtain ⟨m, hm, hg⟩ := Pl.dg_of 4 p P9.out.q.lt P0.out; have := R1.out.len hg; omega
    have hl2 : rs2.length ≤ 4 := by obtain ⟨m, hm, hg⟩ := Pl.dg_of 4 q Q9.out.q.lt Q0.out; have := R2.out.len hg; omega
    obtain ⟨n2, hn2⟩ : ∃ n2, n2 = rs2.length := ⟨_, rfl⟩
    have HN2 := Lib.hid hn2
    rw [← hn2] at hp2 ⊢
    clear hp2 hn2
    go_wp2_with (at_builtin; refine wpList_app64 rfl _ _ rfl w7.heap.size rs1 rs2 _ A2 n2 c2 G9.out rfl rfl HN2.out HP2.out.2.1 (fun e => ⟨hnil e, by have := HP2.out.2.2.1; have := HN2.out; have := hnil e; omega⟩) (by have := HN2.out; omega) HSZ ?_; intro z w10 hz hb10; have HZ := Lib.hid hz; clear hz)
    have hkp3 : Below w7.heap.size w7 w10 := hkp2.trans hb10
    have hk10 : Below w.heap.size w w10 := hk9.trans (hb10.mono (by have := hkw.size; omega))
    have hn : Nv w10 z (rs1 ++ rs2) 1000 := by
      obtain ⟨A', c', rfl, hp, _⟩ := HZ.out.pt
      exact ⟨A', _, c', rfl, hp, fun y hy => by
        rcases List.mem_append.1 hy with h | h
        · exact Nat.lt_trans (R1.out.1 y h) (by omega)
        · exact Nat.lt_trans (R2.out.1 y h) (by omega), by rw [List.length_append]; omega⟩
    have N10 := Lib.hid hn
    have P10 := Lib.hid (PK.out.below hkp3)
    have Q10 := Lib.hid (QK.out.below hkp3)
    clear hn hb10 hk9 hkp1 hkp2 hkp3 hnil HZ
    go_wp2_with fail
    refine (mul_v P10.out.q Q10.out.q (by omega) (by omega)).mono ?_
    rintro e w11 ⟨⟨z4, rfl, h⟩, hb11⟩
    have hk11 := kept_trans hk10 hb11
    have P11 := Lib.hid (P10.out.below hb11)
    have Q11 := Lib.hid (Q10.out.below hb11)
    have N11 := Lib.hid (N10.out.below hb11)
    have D11 := Lib.hid h
    clear hb11 hk10 P10 Q10 N10 h
    go_wp2_with fail
    refine (roots_lv D11.out.q (by omega) (Pl.mul_ne P11.out.q.po Q11.out.q.po P0.out Q0.out)).mono ?_
    rintro e w12 ⟨⟨Al, nl, cl, rs, rfl, h, hpt, hrf, hnl⟩, hb12⟩
    have hk12 := kept_trans hk11 hb12
    have P12 := Lib.hid (P11.out.below hb12)
    have Q12 := Lib.hid (Q11.out.below hb12)
    have N12 := Lib.hid (N11.out.below hb12)
    have D12 := Lib.hid (D11.out.below hb12)
    have E12 := Lib.hid h
    have T12 := Lib.hid hpt
    have RF := Lib.hid hrf
    clear hb12 hk11 P11 Q11 N11 D11 h hpt hrf
    have HLEN := Lib.hid (rof_lenI D12.out.q (Pl.mul_ne P12.out.q.po Q12.out.q.po P0.out Q0.out) (by omega))
    go_wp2
    have hself : Below w12.heap.size w12 w12 := Below.refl _ _
    go_loopw [13] (fun i wr => ∃ t : Nat, i = .int .i64 (t : Int) ∧ t ≤ nl ∧ Below w12.heap.size w12 wr) (fun i _ => nl - (intOf i).toNat)
    case atStart => exact ⟨0, rfl, Nat.zero_le _, hself⟩
    case round =>
      obtain ⟨t, rfl, ht, hbr⟩ := hrel
      clear hself
      have hkr := kept_trans hk12 hbr
      have PR := Lib.hid (P12.out.below hbr)
      have QR := Lib.hid (Q12.out.below hbr)
      by_cases hlt : t < nl
      · obtain ⟨bl, off, e1, hbb, hcl⟩ := T12.out.2.1.num (k := t) (by rw [← T12.out.1]; exact hlt)
        have hcr := (hbr.cell (p := ⟨bl, off + t, none⟩) hbb).trans hcl
        have hy64 := RF.out.1.get t
        have hroot := (RF.out.2.2 _ hy64).1 (mem_getD.2 ⟨t, by rw [← T12.out.1]; exact hlt, rfl⟩)
        rw [Pl.val_mul PR.out.q.po QR.out.q.po, Fld.mul_eq_zero, ← vl_zero, ← vl_zero] at hroot
        obtain ⟨y, hy⟩ : ∃ y, y = rs[t]?.getD 0 := ⟨_, rfl⟩
        rw [← hy] at hcr hy64 hroot
        have HROOT := Lib.hid hroot
        clear hroot hy hcl
        subst e1
        have q1 : (0 : Int) ≤ (t : Int) := by omega
        have q2 : (t : Int) < (nl : Int) := by omega
        go_wp2_with fail
        refine (evalz_v PR.out.q (by omega) y (by omega)).mono ?_
        rintro e wa ⟨⟨va, rfl, hva⟩, hba⟩
        have hcr2 := (hba.cell (p := ⟨bl, off + t, none⟩) (by show bl < wr.heap.size; have := hbr.size; omega)).trans hcr
        by_cases hv0 : va = 0
        · have s1 : ((va : Int) != 0) = false := by subst hv0; rfl
          clear hva hv0 hcr2
          go_wp2
          go_roundw
          case rel => exact ⟨t + 1, by go_num, hlt, kept_trans hbr hba⟩
          case measure => simp [intOf]; omega
        · have s1 : ((va : Int) != 0) = true := by rw [bne_iff_ne]; omega
          have hq0 : vl q y = 0 := HROOT.out.resolve_left (fun h => hv0 (hva.trans h))
          have HQ0 := Lib.hid hq0
          clear hva hv0 hq0
          go_wp2_with fail
          refine (evalz_v (QR.out.below hba).q (by omega) y (by omega)).mono ?_
          rintro e wb ⟨⟨vb, rfl, hvb⟩, hbb2⟩
          have s2 : ((vb : Int) != 0) = false := by rw [hvb, HQ0.out]; rfl
          clear hvb hcr2
          go_wp2
          go_roundw
          case rel => exact ⟨t + 1, by go_num, hlt, kept_trans hbr (kept_trans hba hbb2)⟩
          case measure => simp [intOf]; omega
      · have NR := Lib.hid (N12.out.below hbr)
        have ER := Lib.hid (E12.out.below hbr)
        have hdeg : ∃ m, m + 1 = np ∧ Pl.Dg p m := by
          obtain ⟨m, hm⟩ := PR.out.q.po.dg P0.out
          exact ⟨m, (PD.out m hm).symm, hm⟩
        obtain ⟨m, hm1, hm2⟩ := hdeg
        have hltm := hm2.2
        rw [hm1] at hltm
        have PN := Lib.hid (PR.out.less hltm)
        clear hm1 hm2 hltm
        go_wp2_with fail
        refine (roots_lv PN.out.q (by omega) P0.out).mono ?_
        rintro e wc ⟨⟨A7, n7, c7, rs7, rfl, -, -, -, hn7⟩, hbc⟩
        have hkc := kept_trans hkr hbc
        have NC := Lib.hid (NR.out.below hbc)
        have EC := Lib.hid (ER.out.below hbc)
        go_wp2_with fail
        refine (sorted_v NC.out (by omega)).mono ?_
        rintro e wd ⟨⟨z8, rfl, h8⟩, hbd⟩
        have hkd := kept_trans hkc hbd
        have H8 := Lib.hid h8
        have ED := Lib.hid (EC.out.below hbd)
        have hro := ro_both PR.out.q.po QR.out.q.po R1.out R2.out
        have HRO := Lib.hid hro
        clear h8 hro
        go_wp2_with fail
        refine (roots_same ED.out H8.out HRO.out HLEN.out).mono ?_
        rintro e we ⟨rfl, hbe⟩
        have hke := kept_trans hkd hbe
        go_wp2_with fail
        refine (lives_any _).mono ?_
        rintro e wf ⟨rfl, hbf⟩
        go_wp2
        go_ret
        exact ⟨rfl, kept_trans hke hbf⟩

end Go.Proofs.Ytalljoneflepiaa
