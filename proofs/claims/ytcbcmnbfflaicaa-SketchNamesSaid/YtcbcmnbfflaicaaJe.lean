/-
  Joined texts: Rts Fra Frb.
-/
import Derived.Test.YtcbcmnbfflaicaaJc
import Derived.Laws.EntriesVeiled
import Derived.Deep.RegionHeld3
import Derived.Deep.DeepCutAuto
import Derived.Test.YtcbcmnbfflaicaaJb

/-
  Package poly's Roots: the roots, rising, each once; none of a polynomial that is 0. For lists of up to thirteen numbers of 64 bits.
-/
namespace Go.Proofs.Ytcbcmnbfflaicaa
open Go.RowKit

/-- x to the power of P, modulo s, in memory of its own. -/
def PwR (s : Pl) (w : World) (x : Value) : Prop := ∃ g n c L R, x = .slice (some ⟨g, 0, none⟩) n c ∧ Own w g n c L R ∧ Pl.Tr (L.take n) ∧ n ≤ 13 ∧ Pl.Cg s (Pl.pw (Pl.lin (0 - Fld.to 0)) 2305843009213693951) R
/-- The same, less x. -/
def AdR (s : Pl) (w : World) (x : Value) : Prop := ∃ g n c L R m, x = .slice (some ⟨g, 0, none⟩) n c ∧ Own w g n c L (R + Pl.sh (Pl.C m)) ∧ Pl.Tr (L.take n) ∧ n ≤ 13 ∧ Pl.Po R ∧ m + 1 = 0 ∧ Pl.Cg s (Pl.pw (Pl.lin (0 - Fld.to 0)) 2305843009213693951) R
/-- The product of x less each root of s. -/
def GcR (e : Nat) (s : Pl) (w : World) (x : Value) : Prop := ∃ A n c l f d, x = .slice A n c ∧ Pt w A n c l ∧ Pl.Is l f ∧ Pl.Spl e f d 0 ∧ d ≤ 12 ∧ ∀ y, Pl.val f y = 0 ↔ Pl.val s y = 0
/-- The roots of s, in a variable. -/
def RtW (s : Pl) (Br lo : Nat) (w : World) : Prop := ∃ v rs, RBox w Br lo v rs ∧ Pl.Rof s rs ∧ rs.length ≤ 12

theorem PwR.below {s : Pl} {w w' : World} {x : Value} (h : PwR s w x) (hb : Below w.heap.size w w') : PwR s w' x := by
  obtain ⟨g, n, c, L, R, e, h1, h2⟩ := h
  exact ⟨g, n, c, L, R, e, h1.below hb h1.lt, h2⟩
theorem root_pow (g n c : Nat) (L : List Nat) (s : Pl) (w : World) (ho : Own w g n c L s) (ht : Pl.Tr (L.take n)) (h0 : 0 < n) (hn : n ≤ 13) :
    Calls Try.prog 71 #[.int .u64 0, .int .u64 2305843009213693951, .slice (some ⟨g, 0, none⟩) n c] w fun e w' => (∃ x, e = .returned x ∧ PwR s w' x) ∧ Below w.heap.size w w' := by
  refine (power_any 0 2305843009213693951 61 (some ⟨g, 0, none⟩) n c (L.take n) w (by omega) (by omega) (by decide) (by omega) len_P ho.pt ht h0 (by omega)).mono ?_
  rintro e w' ⟨⟨x, rfl, g1, n1, c1, L1, R, rfl, _, h2, h3, h4, h5⟩, hb⟩
  refine ⟨⟨_, rfl, g1, n1, c1, L1, R, rfl, h2, h3, by omega, ?_⟩, hb⟩
  rw [ho.co] at h5
  exact h5
theorem root_add (s : Pl) (x : Value) (B : Nat) (w : World) (hx : PwR s w x) (hB : Rd w.heap.size w (some ⟨B, 0, none⟩) (u64s [0, 2305843009213693950])) :
    Calls Try.prog 70 #[x, .slice (some ⟨B, 0, none⟩) 2 2] w fun e w' => (∃ x, e = .returned x ∧ AdR s w' x) ∧ Below w.heap.size w w' := by
  obtain ⟨g, n, c, L, R, rfl, h1, h2, h3, h4⟩ := hx
  refine (add_poly (some ⟨g, 0, none⟩) (some ⟨B, 0, none⟩) n c 2 2 (L.take n) [0, 2305843009213693950] w h1.slice.symm rfl (by omega) (by omega) h2.1.big (by intro y hy; simp at hy; omega) h1.pt.2.1 hB).mono ?_
  rintro e w' ⟨hg, hb⟩
  obtain ⟨g1, n1, c1, L1, rfl, _, ho, ht⟩ := hg.own
  have e1 : Pl.co [0, 2305843009213693950] = Pl.sh (Pl.C (Fld.to 2305843009213693950)) := by
    rw [Pl.co_cons, co_one, Fld.to_zero, Pl.C_zero, Pl.zero_add]
  rw [h1.co, e1] at ho
  refine ⟨⟨_, rfl, g1, n1, c1, L1, R, _, rfl, ho, ht, ?_, h1.po, Pl.to_less, h4⟩, hb⟩
  exact ho.len ht ((h1.lt_co.mono h3).add (((Pl.Lt.C _).sh).mono (by omega)))
theorem root_gcd (e : Nat) (g n c : Nat) (L : List Nat) (s : Pl) (y : Value) (w : World) (ho : Own w g n c L s) (ht : Pl.Tr (L.take n)) (h0 : s ≠ 0) (hn : n ≤ 13) (hy : AdR s w y) :
    Calls Try.prog 50 #[.slice (some ⟨g, 0, none⟩) n c, y] w fun x w' => (∃ z, x = .returned z ∧ GcR e s w' z) ∧ Below w.heap.size w w' := by
  obtain ⟨g1, n1, c1, L1, R, m, rfl, h1, h2, h3, h4, h5, h6⟩ := hy
  refine (gcd_poly (some ⟨g, 0, none⟩) (some ⟨g1, 0, none⟩) n c n1 c1 (L.take n) (L1.take n1) w ho.slice.symm h1.slice.symm (by omega) (by omega) ht.1.big h2.1.big ho.pt.2.1 h1.pt.2.1).mono ?_
  rintro x w' ⟨⟨f, ⟨A, nf, cf, l, rfl, hp, hi, _⟩, hg⟩, hb⟩
  rw [ho.co, h1.co] at hg
  obtain ⟨d, hd, hv, hdv⟩ := Pl.Spl.first (e := e) h5 ho.po h0 h4 h6 hg
  refine ⟨⟨_, rfl, A, nf, cf, l, f, d, rfl, hp, hi, hd, ?_, hv⟩, hb⟩
  obtain ⟨q, hq, e1⟩ := hdv
  have hq0 : q ≠ 0 := by rintro rfl; exact h0 (by rw [e1, Pl.mul_zero])
  obtain ⟨k, hk⟩ := hq.dg hq0
  have := (e1 ▸ hd.dg.mul hk : Pl.Dg s (d + k)).lt ho.lt_co
  omega
theorem root_split (e : Nat) (he0 : 0 < e) (heI : (e : Int) = 1152921504606846975) (Br Bs lo : Nat) (hBr : Br < lo) (hBs : Bs < lo) (hne : Bs ≠ Br) (s : Pl) (z : Value) (w : World) (hz : GcR e s w z) (hlo : lo ≤ w.heap.size)
    (hcs : w.cell? ⟨Bs, 0, none⟩ = some (.func (.func 69) #[] #[.pointer (some ⟨Br, 0, none⟩), .pointer (some ⟨Bs, 0, none⟩)])) (hr : RBox w Br lo (.slice none 0 0) []) :
    Calls Try.prog 69 #[z, .int .u64 0, .pointer (some ⟨Br, 0, none⟩), .pointer (some ⟨Bs, 0, none⟩)] w fun x w' => ((∃ r, x = .returned r) ∧ RtW s Br lo w') ∧ Fx w.heap.size (fun k => k = Br) w w' := by
  obtain ⟨A, n, c, l, f, d, rfl, h1, h2, h3, h4, h5⟩ := hz
  refine (split_any e he0 heI Br Bs lo hBr hBs hne 2305843009213693951 0 (by omega) f d A n c l (.slice none 0 0) [] w h3 h1 h2 (by omega) (by rw [List.length_nil]; omega) hlo hcs hr).mono ?_
  rintro x w' ⟨hr, ⟨v, rs, h6, h7, _⟩, hf⟩
  refine ⟨⟨hr, v, rs, h6, ⟨h7.1, h7.2.1, fun y hy => (h7.2.2 y hy).trans (h5 _)⟩, ?_⟩, hf.mono (fun b hb hx => ⟨hb, fun h => ?_⟩)⟩
  · exact Nat.le_trans (h7.len h3.dg) h4
  · rcases h with h | h
    · exact hx h
    · cases h

/-- What Roots tells. -/
def RootsAre (s : Pl) (e : Ending) (w' : World) : Prop := ∃ A n c rs, e = .returned (.slice A n c) ∧ Pt w' A n c rs ∧ (s = 0 → rs = []) ∧ (s ≠ 0 → Pl.Rof s rs ∧ Up rs)

theorem rd_pair (w : World) (x y : Nat) : Rd (w.alloc (.cells #[.int .u64 (x : Int), .int .u64 (y : Int)] 22)).heap.size (w.alloc (.cells #[.int .u64 (x : Int), .int .u64 (y : Int)] 22)) (some ⟨w.heap.size, 0, none⟩) (u64s [x, y]) := rd_two w x y

/-- What is known once all roots are found. -/
def RtE (s : Pl) (Br lo B : Nat) (w0 w : World) : Prop := RtW s Br lo w ∧ Below B w0 w

theorem Rd.sub0 {w : World} {g : Nat} {L : List Nat} {D : List Value} (h : Ax w g L D) : Rd w.heap.size w (some ⟨g, 0, none⟩) (u64s L) := fun _ =>
  ⟨g, 0, rfl, Blk.lt h, fun i u hu => by
    have hi : i < L.length := by rw [← u64s_len L]; exact (List.getElem?_eq_some_iff.1 hu).1
    rw [Nat.zero_add, h.cell hi, ← hu, u64s_at hi]⟩
theorem Pl.Rof.perm {f : Pl} {a b : List Nat} (h : Pl.Rof f a) (hp : List.Perm b a) : Pl.Rof f b :=
  ⟨fun x hx => h.1 x (hp.mem_iff.1 hx), hp.nodup_iff.2 h.2.1, fun x hx => (hp.mem_iff).trans (h.2.2 x hx)⟩
/-- What the sort leaves. -/
def Sorted (s : Pl) (Br lo : Nat) (v : Value) (w : World) (e : Ending) (w' : World) : Prop :=
  (∃ r, e = .returned r) ∧ w'.cell? ⟨Br, 0, none⟩ = some v ∧ (∃ A n c rs, v = .slice A n c ∧ Pt w' A n c rs ∧ Pl.Rof s rs ∧ Up rs) ∧ Below lo w w'
theorem rt_sort {s : Pl} {Br lo : Nat} {w : World} (h : RtW s Br lo w) (hBr : Br < lo) (hlo : lo ≤ w.heap.size) : ∃ v, w.cell? ⟨Br, 0, none⟩ = some v ∧ Calls Try.prog 72 #[v] w (Sorted s Br lo v w) := by
  obtain ⟨v, rs, ⟨h1, h2, ⟨A, c, rfl⟩, h3, h4⟩, h5, h6⟩ := h
  refine ⟨_, h1, ?_⟩
  rcases Nat.eq_zero_or_pos rs.length with h0 | h0
  · have hnil : rs = [] := List.eq_nil_of_length_eq_zero h0
    subst hnil
    have hA : A = none → c = 0 := by
      intro e
      rcases h4 with ⟨e2, _⟩ | ⟨g, cap, cur, e2, _⟩
      · injection e2
      · rw [e] at e2; injection e2 with e2; cases e2
    refine (sort_none A c w).mono ?_
    rintro e w' ⟨h7, h8⟩
    exact ⟨h7, (h8.cell (p := ⟨Br, 0, none⟩) (by show Br < w.heap.size; omega)).trans h1, ⟨A, 0, c, [], rfl, ⟨rfl, Rd.nil, Nat.zero_le _, hA⟩, h5, List.Pairwise.nil⟩, h8.mono hlo⟩
  · rcases h4 with ⟨_, e2⟩ | ⟨g, cap, cur, e2, g1, g2, g3, g4, g5, g6⟩
    · omega
    · injection e2 with e2 e3 e4
      subst e2 e4
      have hax : Ax w g rs (cur.toList.drop (rs.length * 1)) := by
        unfold Ax Blk
        rw [← g6, List.take_append_drop]
        exact g2
      refine (sort_any g rs.length c rs _ w hax rfl h0 h6 h5.1.big).mono ?_
      rintro e w' ⟨h7, ⟨L, h8, h9, h10⟩, h11⟩
      refine ⟨h7, (World.cell?_of_block (a := ⟨Br, 0, none⟩) (h11.block Br (by omega) (by intro e; injection e with e; omega))).trans h1, ⟨_, rs.length, c, L, rfl, ⟨h9.length_eq.symm, Rd.sub0 h8, g3, fun e => by cases e⟩, h5.perm h9, h10⟩, ⟨h11.os, h11.tape, h11.output, h11.size, fun k hk => h11.block k (by omega) (by intro e; injection e with e; omega)⟩⟩
theorem below_allocS {w w' : World} (h : Below w.heap.size w w') (o : Obj) : Below w.heap.size w (w'.alloc o) := h.alloc h.size o
theorem rd_pairP (w : World) : Rd (w.alloc (.cells #[.int .u64 0, .int .u64 2305843009213693950] 22)).heap.size (w.alloc (.cells #[.int .u64 0, .int .u64 2305843009213693950] 22)) (some ⟨w.heap.size, 0, none⟩) (u64s [0, 2305843009213693950]) := rd_two w 0 2305843009213693950
theorem u64_pair : u64s [0, 2305843009213693950] = [.int .u64 0, .int .u64 2305843009213693950] := rfl
theorem rd_pairD (w : World) : Rd (w.alloc (.cells #[.int .u64 0, .int .u64 2305843009213693950] 22)).drew.heap.size (w.alloc (.cells #[.int .u64 0, .int .u64 2305843009213693950] 22)).drew (some ⟨w.heap.size, 0, none⟩) (u64s [0, 2305843009213693950]) := rd_pairP w
theorem root_pow2 (g n c : Nat) (L : List Nat) (s : Pl) (w1 w2 : World) (h12 : Below w1.heap.size w1 w2) (ho : Own w1 g n c L s) (ht : Pl.Tr (L.take n)) (h0 : 0 < n) (hn : n ≤ 13) (W : World) (hW : Below w2.heap.size w2 W) :
    Calls Try.prog 71 #[.int .u64 0, .int .u64 2305843009213693951, .slice (some ⟨g, 0, none⟩) n c] W fun e w' => (∃ x, e = .returned x ∧ PwR s w' x) ∧ Below w2.heap.size w2 w' ∧ Below W.heap.size W w' :=
  (root_pow g n c L s W (ho.below (h12.trans (hW.mono h12.size)) ho.lt) ht h0 hn).mono fun _ _ ⟨h1, h2⟩ => ⟨h1, hW.trans (h2.mono hW.size), h2⟩
theorem root_add2 (s : Pl) (w2 : World) (W : World) (hW : Below w2.heap.size w2 W) (x : Value) (B : Nat) (hx : PwR s W x) (hB : Rd W.heap.size W (some ⟨B, 0, none⟩) (u64s [0, 2305843009213693950])) :
    Calls Try.prog 70 #[x, .slice (some ⟨B, 0, none⟩) 2 2] W fun e w' => (∃ x, e = .returned x ∧ AdR s w' x) ∧ Below w2.heap.size w2 w' :=
  (root_add s x B W hx hB).mono fun _ _ ⟨h1, h2⟩ => ⟨h1, hW.trans (h2.mono hW.size)⟩
theorem root_gcd2 (e : Nat) (g n c : Nat) (L : List Nat) (s : Pl) (w1 w2 : World) (h12 : Below w1.heap.size w1 w2) (ho : Own w1 g n c L s) (ht : Pl.Tr (L.take n)) (h0 : s ≠ 0) (hn : n ≤ 13) (W : World) (hW : Below w2.heap.size w2 W) (y : Value) (hy : AdR s W y) :
    Calls Try.prog 50 #[.slice (some ⟨g, 0, none⟩) n c, y] W fun x w' => (∃ z, x = .returned z ∧ GcR e s w' z) ∧ Below w2.heap.size w2 w' :=
  (root_gcd e g n c L s y W (ho.below (h12.trans (hW.mono h12.size)) ho.lt) ht h0 hn hy).mono fun _ _ ⟨h1, h2⟩ => ⟨h1, hW.trans (h2.mono hW.size)⟩
theorem root_split2 (e : Nat) (he0 : 0 < e) (heI : (e : Int) = 1152921504606846975) (s : Pl) (w0 w1 w2 : World) (h01 : Below w0.heap.size w0 w1) (h12 : Below w1.heap.size w1 w2) (hz : w2.heap.size = w1.heap.size + 2)
    (hcs : w2.cell? ⟨w1.heap.size + 1, 0, none⟩ = some (.func (.func 69) #[] #[.pointer (some ⟨w1.heap.size, 0, none⟩), .pointer (some ⟨w1.heap.size + 1, 0, none⟩)])) (hr : RBox w2 w1.heap.size w2.heap.size (.slice none 0 0) [])
    (W : World) (hW : Below w2.heap.size w2 W) (z : Value) (hy : GcR e s W z) :
    Calls Try.prog 69 #[z, .int .u64 0, .pointer (some ⟨w1.heap.size, 0, none⟩), .pointer (some ⟨w1.heap.size + 1, 0, none⟩)] W fun x w' => (∃ r, x = .returned r) ∧ RtE s w1.heap.size w2.heap.size w0.heap.size w0 w' ∧ w'.cell? ⟨w1.heap.size + 1, 0, none⟩ = some (.func (.func 69) #[] #[.pointer (some ⟨w1.heap.size, 0, none⟩), .pointer (some ⟨w1.heap.size + 1, 0, none⟩)]) ∧ w2.heap.size ≤ w'.heap.size := by
  have hs := hW.size
  refine (root_split e he0 heI w1.heap.size (w1.heap.size + 1) w2.heap.size (by omega) (by omega) (by omega) s z W hy hW.size ((hW.cell (p := ⟨w1.heap.size + 1, 0, none⟩) (by show w1.heap.size + 1 < _; omega)).trans hcs) (hr.below hW)).mono ?_
  rintro x w' ⟨⟨h1, h2⟩, h3⟩
  have hcW := (hW.cell (p := ⟨w1.heap.size + 1, 0, none⟩) (by show w1.heap.size + 1 < _; omega)).trans hcs
  refine ⟨h1, ⟨h2, ?_⟩, (h3.cell (p := ⟨w1.heap.size + 1, 0, none⟩) (by show w1.heap.size + 1 < W.heap.size; omega) (by show ¬ w1.heap.size + 1 = w1.heap.size; omega)).trans hcW, Nat.le_trans hW.size h3.size⟩
  have h4 : Below w1.heap.size W w' := h3.below (fun k hk => ⟨by omega, by omega⟩)
  exact h01.trans ((h12.trans ((hW.mono h12.size).trans h4)).mono h01.size)
theorem rt_box (w1 : World) (F : Value) : RBox ((w1.alloc (.cells #[.slice none 0 0] 25)).alloc (.cells #[F] 90)) w1.heap.size ((w1.alloc (.cells #[.slice none 0 0] 25)).alloc (.cells #[F] 90)).heap.size (.slice none 0 0) [] :=
  ⟨cell_alloc_l _ (cell_new_l w1 _ 25).1, frozen_alloc_l _ (cell_new_l w1 _ 25).1 (cell_new_l w1 _ 25).2, ⟨none, 0, rfl⟩, World.ownsRow_nil _ _ _ _⟩

set_option maxRecDepth 100000 in
set_option maxHeartbeats 4000000 in
theorem roots_any (A : Option Addr) (la ca : Nat) (a : List Nat) (w : World) (hn : la = a.length) (hla : la ≤ 13) (ha : ∀ y ∈ a, y < 18446744073709551616) (hA : Rd w.heap.size w A (u64s a)) :
    Calls Try.prog 52 #[.slice A la ca] w fun e w' => RootsAre (Pl.co a) e w' ∧ Below w.heap.size w w' := by
  obtain ⟨ex, hex⟩ : ∃ ex : Nat, (ex : Int) = 1152921504606846975 := ⟨1152921504606846975, rfl⟩
  have HEX := Lib.hid hex
  have hex0 : 0 < ex := by omega
  clear hex
  have h1 := trim_poly A la ca a w hn (by omega) ha hA
  have H1 := Lib.hid h1
  have HA := Lib.hid (hn ▸ hla : a.length ≤ 13)
  clear h1 hn ha hA
  go_enter Try.func52, Try.ntmps52
  go_wp2_with fail
  refine H1.out.mono ?_
  rintro e w1 ⟨hg1, hb1⟩
  obtain ⟨g1, n1, c1, L1, rfl, hl1, ho1, ht1⟩ := hg1.own
  have hn1 : n1 ≤ 13 := Nat.le_trans (ho1.len ht1 (Pl.Lt.co a)) HA.out
  have HO1 := Lib.hid ho1
  have HT1 := Lib.hid ht1
  clear hg1 ho1 ht1
  rcases Nat.eq_zero_or_pos n1 with h0 | h0
  · subst h0
    have hz : Pl.co a = 0 := (HO1.out.zero HT1.out).1 rfl
    have HZ := Lib.hid hz
    clear hz
    go_wp2
    go_ret
    exact ⟨⟨none, 0, 0, [], rfl, Pt.nil _, fun _ => rfl, fun h => absurd HZ.out h⟩, hb1⟩
  · have z1 : ((n1 : Int) == 0) = false := by rw [beq_eq_false_iff_ne]; omega
    have hnz : Pl.co a ≠ 0 := fun h => by have := (HO1.out.zero HT1.out).2 h; omega
    have HNZ := Lib.hid hnz
    clear hnz
    go_upto_region 7 with (fail)
    have hB := rt_box w1 (.func (.func 69) #[] #[.pointer (some ⟨w1.heap.size, 0, none⟩), .pointer (some ⟨w1.heap.size + 1, 0, none⟩)])
    have hC : ((w1.alloc (.cells #[.slice none 0 0] 25)).alloc (.cells #[.func (.func 69) #[] #[.pointer (some ⟨w1.heap.size, 0, none⟩), .pointer (some ⟨w1.heap.size + 1, 0, none⟩)]] 90)).cell? ⟨w1.heap.size + 1, 0, none⟩ =
        some (.func (.func 69) #[] #[.pointer (some ⟨w1.heap.size, 0, none⟩), .pointer (some ⟨w1.heap.size + 1, 0, none⟩)]) := by
      have h := (cell_new_l (w1.alloc (.cells #[.slice none 0 0] 25)) (.func (.func 69) #[] #[.pointer (some ⟨w1.heap.size, 0, none⟩), .pointer (some ⟨w1.heap.size + 1, 0, none⟩)]) 90).1
      rwa [show (w1.alloc (.cells #[.slice none 0 0] 25)).heap.size = w1.heap.size + 1 by simp] at h
    have hD : Below w1.heap.size w1 ((w1.alloc (.cells #[.slice none 0 0] 25)).alloc (.cells #[.func (.func 69) #[] #[.pointer (some ⟨w1.heap.size, 0, none⟩), .pointer (some ⟨w1.heap.size + 1, 0, none⟩)]] 90)) := ((Below.refl _ w1).alloc (Nat.le_refl _) _).alloc (by simp) _
    have hE : ((w1.alloc (.cells #[.slice none 0 0] 25)).alloc (.cells #[.func (.func 69) #[] #[.pointer (some ⟨w1.heap.size, 0, none⟩), .pointer (some ⟨w1.heap.size + 1, 0, none⟩)]] 90)).heap.size = w1.heap.size + 2 := by simp
    obtain ⟨w2, hw2⟩ : ∃ w2, w2 = ((w1.alloc (.cells #[.slice none 0 0] 25)).alloc (.cells #[.func (.func 69) #[] #[.pointer (some ⟨w1.heap.size, 0, none⟩), .pointer (some ⟨w1.heap.size + 1, 0, none⟩)]] 90)) := ⟨_, rfl⟩
    rw [← hw2] at hB hC hD hE
    rw [← hw2]
    have HP := Lib.hid (root_pow2 g1 n1 c1 L1 (Pl.co a) w1 w2 hD HO1.out HT1.out h0 hn1)
    have HG := Lib.hid (root_gcd2 ex g1 n1 c1 L1 (Pl.co a) w1 w2 hD HO1.out HT1.out HNZ.out hn1)
    have HS := Lib.hid (root_split2 ex hex0 HEX.out (Pl.co a) w w1 w2 hb1 hD hE hC hB)
    have HAD := Lib.hid (root_add2 (Pl.co a) w2)
    have HE := Lib.hid hE
    have hlt : w1.heap.size < w2.heap.size := by omega
    have hr0 : Below w2.heap.size w2 w2 := Below.refl _ _
    clear hB hE hw2 hD
    go_cut [] (fun wx => ∃ W : World, W = wx ∧ RtE (Pl.co a) w1.heap.size w2.heap.size w.heap.size w W ∧ w2.heap.size ≤ W.heap.size)
    case first =>
      go_region_held3 (fun w' : World => w'.cell? ⟨w1.heap.size + 1, 0, none⟩ = some (.func (.func 69) #[] #[.pointer (some ⟨w1.heap.size, 0, none⟩), .pointer (some ⟨w1.heap.size + 1, 0, none⟩)]))
        ((first | assumption | exact ((by (repeat (first | assumption | exact Below.refl _ _ | refine below_to_drew ?_ | refine below_allocS ?_ _)) : Below w2.heap.size w2 _).cell (p := ⟨w1.heap.size + 1, 0, none⟩) (by show w1.heap.size + 1 < w2.heap.size; have := HE.out; omega)).trans hC))
        (first
          | (go_at_call 71; ((with_reducible refine (HP.out _ (by (repeat (first | assumption | exact Below.refl _ _ | refine below_to_drew ?_ | refine below_allocS ?_ _)))).mono ?_); rintro e w3 ⟨⟨x3, rfl, hx3⟩, hb3, hb3W⟩))
          | (go_at_call 70; have q1 := HAD.out (w3.alloc (.cells #[.int .u64 0, .int .u64 2305843009213693950] 22)) (below_allocS hb3 _) x3 w3.heap.size (hx3.below ((Below.refl _ _).alloc (Nat.le_refl _) _)) (rd_pairP w3); ((with_reducible refine q1.mono ?_); rintro e w4 ⟨⟨x4, rfl, hx4⟩, hb4⟩))
          | (go_at_call 70; have q1 := HAD.out w3 hb3 x3 w2.heap.size hx3 (((rd_pairD w2).below hb3W).more hb3W.size); ((with_reducible refine q1.mono ?_); rintro e w4 ⟨⟨x4, rfl, hx4⟩, hb4⟩))
          | (go_at_call 50; ((with_reducible refine (HG.out _ hb4 x4 hx4).mono ?_); rintro e w5 ⟨⟨x5, rfl, hx5⟩, hb5⟩))
          | (go_at_call 69; ((with_reducible refine (HS.out _ hb5 x5 hx5).mono ?_); rintro e w6 ⟨⟨r6, rfl⟩, hr6, hcs6, hz6⟩)))
      all_goals (go_wp2_with fail; go_meet; exact ⟨_, rfl, hr6, hz6⟩)
    case rest =>
      obtain ⟨W, rfl, hRt, hzW⟩ := hcut
      obtain ⟨v, hv, hcall⟩ := rt_sort hRt.1 hlt hzW
      have HV := Lib.hid hv
      have HCL := Lib.hid hcall
      clear hcall hC
      go_wp2_with fail
      refine HCL.out.mono ?_
      rintro e w9 ⟨⟨r, rfl⟩, hv9, hs9, hb9⟩
      have HS9 := Lib.hid hs9
      have hb0 : Below w.heap.size w w9 := hRt.2.trans (hb9.mono (by have := hRt.2.size; have := hb1.size; have := HE.out; omega))
      clear hs9 hb9
      go_wp2
      obtain ⟨A9, n9, c9, rs, e9, hp9, hr9, hu9⟩ := HS9.out
      have HF := Lib.hid (And.intro hp9 (And.intro hr9 hu9))
      clear hp9 hr9 hu9 HS9 hv hv9 HCL HV
      subst e9
      go_ret
      exact ⟨⟨A9, n9, c9, rs, rfl, HF.out.1, fun h => absurd h HNZ.out, fun _ => HF.out.2⟩, hb0⟩
end Go.Proofs.Ytcbcmnbfflaicaa

/-
  Interpolation by Newton, without any program: what is 0 at all places that were met, and what has the values there; and that there is but one.
-/
namespace Go.Proofs.Ytcbcmnbfflaicaa
open Go.RowKit
namespace Pl
open Fld (F iv)

/-- The first k are not the same, modulo the prime. -/
def Dis (xs : List Nat) (k : Nat) : Prop := ∀ i j, i < j → j < k → co xs i ≠ co xs j
/-- What is known behind k rounds. -/
structure Fr (xs ys : List Nat) (k : Nat) (Z S : Pl) : Prop where
  lt : Lt Z (k + 1)
  zr : ∀ x, val Z x = 0 ↔ ∃ j, j < k ∧ x = co xs j
  fl : Lt S k
  fv : ∀ j, j < k → val S (co xs j) = co ys j
  ds : Dis xs k
theorem Fr.start (xs ys : List Nat) : Fr xs ys 0 (C 1) 0 :=
  ⟨Lt.C 1, fun x => ⟨fun h => absurd ((val_C 1 x).symm.trans h) Fld.one_ne, fun ⟨j, h, _⟩ => absurd h (Nat.not_lt_zero j)⟩, Lt.zero 0, fun j h => absurd h (Nat.not_lt_zero j), fun _ j _ h => absurd h (Nat.not_lt_zero j)⟩
theorem Fr.step {xs ys : List Nat} {k : Nat} {Z S : Pl} (h : Fr xs ys k Z S) (hz : val Z (co xs k) ≠ 0) :
    Fr xs ys (k + 1) (lin (co xs k) * Z) (S + C ((co ys k - val S (co xs k)) * iv (val Z (co xs k))) * Z) := by
  have pZ : Po Z := ⟨_, h.lt⟩
  have pS : Po S := ⟨_, h.fl⟩
  have hv : ∀ x, val (S + C ((co ys k - val S (co xs k)) * iv (val Z (co xs k))) * Z) x = val S x + (co ys k - val S (co xs k)) * iv (val Z (co xs k)) * val Z x := fun x => by
    rw [val_add pS ((Po.C _).mul pZ), val_smul _ pZ]
  refine ⟨by rw [lin_mul]; exact h.lt.sh.sub ((Lt.smul _ h.lt).mono (by omega)), fun x => ?_, (h.fl.mono (by omega)).add (Lt.smul _ h.lt), fun j hj => ?_, fun i j hij hj => ?_⟩
  · rw [val_mul (Po.lin _) pZ, val_lin, Fld.mul_eq_zero, h.zr]
    constructor
    · rintro (h1 | ⟨j, h1, h2⟩)
      · exact ⟨k, by omega, by grind⟩
      · exact ⟨j, by omega, h2⟩
    · rintro ⟨j, h1, h2⟩
      rcases Nat.lt_or_ge j k with h3 | h3
      · exact .inr ⟨j, h3, h2⟩
      · obtain rfl : j = k := by omega
        left; rw [h2]; grind
  · rw [hv]
    rcases Nat.lt_or_ge j k with h3 | h3
    · rw [h.fv j h3, (h.zr (co xs j)).2 ⟨j, h3, rfl⟩]; grind
    · obtain rfl : j = k := by omega
      have := Fld.mul_iv hz
      grind
  · rcases Nat.lt_or_ge j k with h3 | h3
    · exact h.ds i j hij h3
    · obtain rfl : j = k := by omega
      intro e
      exact hz ((h.zr _).2 ⟨i, hij, e.symm⟩)
theorem Fr.same {xs ys : List Nat} {k n : Nat} {Z S : Pl} (h : Fr xs ys k Z S) (hk : k < n) (hz : val Z (co xs k) = 0) : ¬ Dis xs n := fun hd => by
  obtain ⟨j, h1, h2⟩ := (h.zr _).1 hz
  exact hd j k h1 hk h2.symm

/-- The polynomial of a degree below n that has the values. -/
def Fi (xs ys : List Nat) (n : Nat) (s : Pl) : Prop := Lt s n ∧ ∀ j, j < n → val s (co xs j) = co ys j
theorem zeros_eq {xs : List Nat} {n : Nat} {s : Pl} (hd : Dis xs n) (hl : Lt s n) (h : ∀ j, j < n → val s (co xs j) = 0) : s = 0 := by
  refine Classical.byContradiction fun hne => ?_
  obtain ⟨d, hdn, hdg⟩ := dg_of n s hl hne
  have h1 := roots_le d s hdg ((List.range n).map fun j => co xs j) ?_ ?_
  · rw [List.length_map, List.length_range] at h1; omega
  · rw [List.Nodup, List.pairwise_map]
    refine List.Pairwise.imp_of_mem ?_ (List.pairwise_lt_range (n := n))
    intro a b _ hb hab
    exact hd a b hab (List.mem_range.1 hb)
  · intro x hx
    obtain ⟨j, hj, rfl⟩ := List.mem_map.1 hx
    exact h j (List.mem_range.1 hj)
theorem Fi.uniq {xs ys : List Nat} {n : Nat} {s t : Pl} (hd : Dis xs n) (h : Fi xs ys n s) (k : Fi xs ys n t) : s = t :=
  sub_eq_zero (zeros_eq hd (h.1.sub k.1) fun j hj => by rw [val_sub ⟨n, h.1⟩ ⟨n, k.1⟩, h.2 j hj, k.2 j hj]; grind)
theorem Fr.fi {xs ys : List Nat} {n : Nat} {Z S : Pl} (h : Fr xs ys n Z S) : Fi xs ys n S := ⟨h.fl, h.fv⟩
end Pl
end Go.Proofs.Ytcbcmnbfflaicaa

/-
  Package poly's From: the polynomial of the least degree that has the values; nothing, if there are not as many of both, or two places are the same modulo P.
-/
namespace Go.Proofs.Ytcbcmnbfflaicaa
open Go.RowKit

/-- What From keeps: z is 0 at all places that were met, the list in block gF has the values there. -/
def FmAt (w wr : World) (xs ys : List Nat) (gF n k : Nat) (z : Value) : Prop :=
  ∃ gz c Lz LF Z S, z = .slice (some ⟨gz, 0, none⟩) (k + 1 : Nat) c ∧ gz ≠ gF ∧ w.heap.size ≤ gF ∧ Own wr gz (k + 1) c Lz Z ∧ Ar wr gF LF ∧ LF.length = n ∧ Pl.Sm LF ∧ Pl.co LF = S ∧ Pl.Fr xs ys k Z S ∧ Below w.heap.size w wr
theorem of_then_make {w w1 : World} {g n : Nat} {L : List Nat} {xs ys : List Nat} (ho : Own w1 g 1 1 L (Pl.C 1)) (hW : Below w.heap.size w w1) :
    FmAt w (w1.alloc (.cells (u64s (List.replicate n 0)).toArray 22)) xs ys w1.heap.size n 0 (.slice (some ⟨g, 0, none⟩) 1 1) := by
  have hb : Below w1.heap.size w1 (w1.alloc (.cells (u64s (List.replicate n 0)).toArray 22)) := (Below.refl _ _).alloc (Nat.le_refl _) _
  have hs := ho.lt
  exact ⟨g, 1, L, List.replicate n 0, Pl.C 1, 0, rfl, by omega, hW.size, ho.below hb hs, ar_new _ _, List.length_replicate, Pl.sm_zeros n, Pl.co_zeros n, Pl.Fr.start xs ys, hW.trans (hb.mono hW.size)⟩

/-- What From tells. -/
def FromT (lo n : Nat) (xs ys : List Nat) (e : Ending) (w' : World) : Prop := (Pl.Dis xs n → ∃ s, Poly lo s e w' ∧ Pl.Fi xs ys n s) ∧ (¬ Pl.Dis xs n → e = .returned (.slice none 0 0))

end Go.Proofs.Ytcbcmnbfflaicaa
