/-
  Joined texts: Rts Fra Frb.
-/
import Derived.Test.YthnbkbmhlalpaaaJc
import Derived.Laws.EntriesVeiled
import Derived.Deep.RegionHeld3
import Derived.Deep.DeepCutAuto
import Derived.Test.YthnbkbmhlalpaaaJb

/-
  Package poly's Roots: the roots, rising, each once; none of a polynomial that is 0. For lists of up to thirteen numbers of 64 bits.
-/
namespace Go.Proofs.Ythnbkbmhlalpaaa
open Go.RowKit

/-- x to the power of P, modulo s, in memory of its own. -/
def PwR (s : Pl) (w : World) (x : Value) : Prop := ∃ g n c L R, x = .slice (some ⟨g, 0, none⟩) n c ∧ Own w g n c L R ∧ Pl.Tr (L.take n) ∧ n ≤ 13 ∧ Pl.Cg s (Pl.pw (Pl.lin (0 - Fld.to 0)) 2305843009213693951) R
/-- The same, less x. -/
def AdR (s : Pl) (w : World) (x : Value) : Prop := ∃ g n c L R m, x = .slice (some ⟨g, 0, none⟩) n c ∧ Own w g n c L (R + Pl.sh (Pl.C m)) ∧ Pl.Tr (L.take n) ∧ n ≤ 13 ∧ Pl.Po R ∧ m + 1 = 0 ∧ Pl.Cg s (Pl.pw (Pl.lin (0 - Fld.to 0)) 2305843009213693951) R
/-- The product of x less each root of s. -/
def GcR (e : Nat) (s : Pl) (w : World) (x : Value) : Prop := ∃ A n c l f d, x = .slice A n c ∧ Pt w A n c l ∧ Pl.Is l f ∧ Pl.Spl e f d 0 ∧ d ≤ 12 ∧ ∀ y, Pl.val f y = 0 ↔ Pl.val s y = 0
/-- The roots of s, in a variable. -/
def RtW (s : Pl) (Br lo : Nat) (w : World) : Prop := ∃ v rs, RBox w Br lo v rs ∧ Pl.Rof s rs ∧ rs.length ≤ 12

theorem PwR.below {s : Pl} {w w' : World} {x : Value} (h : PwR s w x) (hb : Below w.heap.size w w') : PwR s w' x := by
  obtain ⟨g, n, c, L, R, e, h1, h2⟩ := h
  exact ⟨g, n, c, L, R, e, h1.below hb h1.lt, h2⟩
/-- What Roots tells. -/
def RootsAre (s : Pl) (e : Ending) (w' : World) : Prop := ∃ A n c rs, e = .returned (.slice A n c) ∧ Pt w' A n c rs ∧ (s = 0 → rs = []) ∧ (s ≠ 0 → Pl.Rof s rs ∧ Up rs)

theorem rd_pair (w : World) (x y : Nat) : Rd (w.alloc (.cells #[.int .u64 (x : Int), .int .u64 (y : Int)] 22)).heap.size (w.alloc (.cells #[.int .u64 (x : Int), .int .u64 (y : Int)] 22)) (some ⟨w.heap.size, 0, none⟩) (u64s [x, y]) := rd_two w x y

/-- What is known once all roots are found. -/
def RtE (s : Pl) (Br lo B : Nat) (w0 w : World) : Prop := RtW s Br lo w ∧ Below B w0 w

theorem Rd.sub0 {w : World} {g : Nat} {L : List Nat} {D : List Value} (h : Ax w g L D) : Rd w.heap.size w (some ⟨g, 0, none⟩) (u64s L) := fun _ =>
  ⟨g, 0, rfl, Blk.lt h, fun i u hu => by
    have hi : i < L.length := by rw [← u64s_len L]; exact (List.getElem?_eq_some_iff.1 hu).1
    rw [Nat.zero_add, h.cell hi, ← hu, u64s_at hi]⟩
theorem Pl.Rof.perm {f : Pl} {a b : List Nat} (h : Pl.Rof f a) (hp : List.Perm b a) : Pl.Rof f b :=
  ⟨fun x hx => h.1 x (hp.mem_iff.1 hx), hp.nodup_iff.2 h.2.1, fun x hx => (hp.mem_iff).trans (h.2.2 x hx)⟩
/-- What the sort leaves. -/
def Sorted (s : Pl) (Br lo : Nat) (v : Value) (w : World) (e : Ending) (w' : World) : Prop :=
  (∃ r, e = .returned r) ∧ w'.cell? ⟨Br, 0, none⟩ = some v ∧ (∃ A n c rs, v = .slice A n c ∧ Pt w' A n c rs ∧ Pl.Rof s rs ∧ Up rs) ∧ Below lo w w'
theorem below_allocS {w w' : World} (h : Below w.heap.size w w') (o : Obj) : Below w.heap.size w (w'.alloc o) := h.alloc h.size o
theorem rd_pairP (w : World) : Rd (w.alloc (.cells #[.int .u64 0, .int .u64 2305843009213693950] 22)).heap.size (w.alloc (.cells #[.int .u64 0, .int .u64 2305843009213693950] 22)) (some ⟨w.heap.size, 0, none⟩) (u64s [0, 2305843009213693950]) := rd_two w 0 2305843009213693950
theorem u64_pair : u64s [0, 2305843009213693950] = [.int .u64 0, .int .u64 2305843009213693950] := rfl
theorem rd_pairD (w : World) : Rd (w.alloc (.cells #[.int .u64 0, .int .u64 2305843009213693950] 22)).drew.heap.size (w.alloc (.cells #[.int .u64 0, .int .u64 2305843009213693950] 22)).drew (some ⟨w.heap.size, 0, none⟩) (u64s [0, 2305843009213693950]) := rd_pairP w
end Go.Proofs.Ythnbkbmhlalpaaa

/-
  Interpolation by Newton, without any program: what is 0 at all places that were met, and what has the values there; and that there is but one.
-/
namespace Go.Proofs.Ythnbkbmhlalpaaa
open Go.RowKit
namespace Pl
open Fld (F iv)

/-- The first k are not the same, modulo the prime. -/
def Dis (xs : List Nat) (k : Nat) : Prop := ∀ i j, i < j → j < k → co xs i ≠ co xs j
/-- What is known behind k rounds. -/
structure Fr (xs ys : List Nat) (k : Nat) (Z S : Pl) : Prop where
  lt : Lt Z (k + 1)
  zr : ∀ x, val Z x = 0 ↔ ∃ j, j < k ∧ x = co xs j
  fl : Lt S k
  fv : ∀ j, j < k → val S (co xs j) = co ys j
  ds : Dis xs k
theorem Fr.start (xs ys : List Nat) : Fr xs ys 0 (C 1) 0 :=
  ⟨Lt.C 1, fun x => ⟨fun h => absurd ((val_C 1 x).symm.trans h) Fld.one_ne, fun ⟨j, h, _⟩ => absurd h (Nat.not_lt_zero j)⟩, Lt.zero 0, fun j h => absurd h (Nat.not_lt_zero j), fun _ j _ h => absurd h (Nat.not_lt_zero j)⟩
theorem Fr.step {xs ys : List Nat} {k : Nat} {Z S : Pl} (h : Fr xs ys k Z S) (hz : val Z (co xs k) ≠ 0) :
    Fr xs ys (k + 1) (lin (co xs k) * Z) (S + C ((co ys k - val S (co xs k)) * iv (val Z (co xs k))) * Z) := by
  have pZ : Po Z := ⟨_, h.lt⟩
  have pS : Po S := ⟨_, h.fl⟩
  have hv : ∀ x, val (S + C ((co ys k - val S (co xs k)) * iv (val Z (co xs k))) * Z) x = val S x + (co ys k - val S (co xs k)) * iv (val Z (co xs k)) * val Z x := fun x => by
    rw [val_add pS ((Po.C _).mul pZ), val_smul _ pZ]
  refine ⟨by rw [lin_mul]; exact h.lt.sh.sub ((Lt.smul _ h.lt).mono (by omega)), fun x => ?_, (h.fl.mono (by omega)).add (Lt.smul _ h.lt), fun j hj => ?_, fun i j hij hj => ?_⟩
  · rw [val_mul (Po.lin _) pZ, val_lin, Fld.mul_eq_zero, h.zr]
    constructor
    · rintro (h1 | ⟨j, h1, h2⟩)
      · exact ⟨k, by omega, by grind⟩
      · exact ⟨j, by omega, h2⟩
    · rintro ⟨j, h1, h2⟩
      rcases Nat.lt_or_ge j k with h3 | h3
      · exact .inr ⟨j, h3, h2⟩
      · obtain rfl : j = k := by omega
        left; rw [h2]; grind
  · rw [hv]
    rcases Nat.lt_or_ge j k with h3 | h3
    · rw [h.fv j h3, (h.zr (co xs j)).2 ⟨j, h3, rfl⟩]; grind
    · obtain rfl : j = k := by omega
      have := Fld.mul_iv hz
      grind
  · rcases Nat.lt_or_ge j k with h3 | h3
    · exact h.ds i j hij h3
    · obtain rfl : j = k := by omega
      intro e
      exact hz ((h.zr _).2 ⟨i, hij, e.symm⟩)
theorem Fr.same {xs ys : List Nat} {k n : Nat} {Z S : Pl} (h : Fr xs ys k Z S) (hk : k < n) (hz : val Z (co xs k) = 0) : ¬ Dis xs n := fun hd => by
  obtain ⟨j, h1, h2⟩ := (h.zr _).1 hz
  exact hd j k h1 hk h2.symm

/-- The polynomial of a degree below n that has the values. -/
def Fi (xs ys : List Nat) (n : Nat) (s : Pl) : Prop := Lt s n ∧ ∀ j, j < n → val s (co xs j) = co ys j
theorem zeros_eq {xs : List Nat} {n : Nat} {s : Pl} (hd : Dis xs n) (hl : Lt s n) (h : ∀ j, j < n → val s (co xs j) = 0) : s = 0 := by
  refine Classical.byContradiction fun hne => ?_
  obtain ⟨d, hdn, hdg⟩ := dg_of n s hl hne
  have h1 := roots_le d s hdg ((List.range n).map fun j => co xs j) ?_ ?_
  · rw [List.length_map, List.length_range] at h1; omega
  · rw [List.Nodup, List.pairwise_map]
    refine List.Pairwise.imp_of_mem ?_ (List.pairwise_lt_range (n := n))
    intro a b _ hb hab
    exact hd a b hab (List.mem_range.1 hb)
  · intro x hx
    obtain ⟨j, hj, rfl⟩ := List.mem_map.1 hx
    exact h j (List.mem_range.1 hj)
theorem Fi.uniq {xs ys : List Nat} {n : Nat} {s t : Pl} (hd : Dis xs n) (h : Fi xs ys n s) (k : Fi xs ys n t) : s = t :=
  sub_eq_zero (zeros_eq hd (h.1.sub k.1) fun j hj => by rw [val_sub ⟨n, h.1⟩ ⟨n, k.1⟩, h.2 j hj, k.2 j hj]; grind)
theorem Fr.fi {xs ys : List Nat} {n : Nat} {Z S : Pl} (h : Fr xs ys n Z S) : Fi xs ys n S := ⟨h.fl, h.fv⟩
end Pl
end Go.Proofs.Ythnbkbmhlalpaaa

/-
  Package poly's From: the polynomial of the least degree that has the values; nothing, if there are not as many of both, or two places are the same modulo P.
-/
namespace Go.Proofs.Ythnbkbmhlalpaaa
open Go.RowKit

/-- What From keeps: z is 0 at all places that were met, the list in block gF has the values there. -/
def FmAt (w wr : World) (xs ys : List Nat) (gF n k : Nat) (z : Value) : Prop :=
  ∃ gz c Lz LF Z S, z = .slice (some ⟨gz, 0, none⟩) (k + 1 : Nat) c ∧ gz ≠ gF ∧ w.heap.size ≤ gF ∧ Own wr gz (k + 1) c Lz Z ∧ Ar wr gF LF ∧ LF.length = n ∧ Pl.Sm LF ∧ Pl.co LF = S ∧ Pl.Fr xs ys k Z S ∧ Below w.heap.size w wr
theorem of_none (w W : World) (hW : Below w.heap.size w W) (gF n : Nat) (xs ys : List Nat) (hg : w.heap.size ≤ gF) (hz : Ar W gF (List.replicate n 0)) :
    Calls Try.prog 35 #[.slice none 0 0] W fun e w' => ∃ z, e = .returned z ∧ FmAt w w' xs ys gF n 0 z := by
  refine (of_poly none 0 0 [] W (by omega) rfl (by intro y hy; cases hy) Rd.nil).mono ?_
  rintro e w' ⟨hm, hb⟩
  obtain ⟨g, L, rfl, hl, ho⟩ := hm.own
  have hgF := hz.lt
  exact ⟨_, rfl, g, 1, L, List.replicate n 0, Pl.C 1, 0, rfl, by omega, hg, ho, hz.below hb hgF, List.length_replicate, Pl.sm_zeros n, Pl.co_zeros n, Pl.Fr.start xs ys, hW.trans (hb.mono hW.size)⟩
theorem of_none2 (w W : World) (hW : Below w.heap.size w W) : Calls Try.prog 35 #[.slice none 0 0] W fun e w' => (∃ g L, e = .returned (.slice (some ⟨g, 0, none⟩) 1 1) ∧ Own w' g 1 1 L (Pl.C 1)) ∧ Below w.heap.size w w' := by
  refine (of_poly none 0 0 [] W (by omega) rfl (by intro y hy; cases hy) Rd.nil).mono ?_
  rintro e w' ⟨hm, hb⟩
  obtain ⟨g, L, rfl, hl, ho⟩ := hm.own
  exact ⟨⟨g, L, rfl, ho⟩, hW.trans (hb.mono hW.size)⟩
theorem of_then_make {w w1 : World} {g n : Nat} {L : List Nat} {xs ys : List Nat} (ho : Own w1 g 1 1 L (Pl.C 1)) (hW : Below w.heap.size w w1) :
    FmAt w (w1.alloc (.cells (u64s (List.replicate n 0)).toArray 22)) xs ys w1.heap.size n 0 (.slice (some ⟨g, 0, none⟩) 1 1) := by
  have hb : Below w1.heap.size w1 (w1.alloc (.cells (u64s (List.replicate n 0)).toArray 22)) := (Below.refl _ _).alloc (Nat.le_refl _) _
  have hs := ho.lt
  exact ⟨g, 1, L, List.replicate n 0, Pl.C 1, 0, rfl, by omega, hW.size, ho.below hb hs, ar_new _ _, List.length_replicate, Pl.sm_zeros n, Pl.co_zeros n, Pl.Fr.start xs ys, hW.trans (hb.mono hW.size)⟩

/-- What From tells. -/
def FromT (lo n : Nat) (xs ys : List Nat) (e : Ending) (w' : World) : Prop := (Pl.Dis xs n → ∃ s, Poly lo s e w' ∧ Pl.Fi xs ys n s) ∧ (¬ Pl.Dis xs n → e = .returned (.slice none 0 0))

set_option maxRecDepth 100000 in
set_option maxHeartbeats 4000000 in
theorem from_same (A A2 : Option Addr) (n ca cb : Nat) (xs ys : List Nat) (w : World) (hn : n = xs.length) (hm : n = ys.length) (hn9 : n ≤ 100000) (hx : ∀ y ∈ xs, y < 18446744073709551616) (hy : ∀ y ∈ ys, y < 18446744073709551616) (hA : Rd w.heap.size w A (u64s xs)) (hA2 : Rd w.heap.size w A2 (u64s ys)) :
    Calls Try.prog 23 #[.slice A n ca, .slice A2 n cb] w fun e w' => FromT w.heap.size n xs ys e w' ∧ Below w.heap.size w w' := by
  have HN := Lib.hid hn
  have HM := Lib.hid hm
  have HX := Lib.hid hx
  have HY := Lib.hid hy
  have HA := Lib.hid hA
  have HA2 := Lib.hid hA2
  clear hn hm hx hy hA hA2
  have hmk := mk64 n (by omega)
  have hr0 : Below w.heap.size w w := Below.refl _ _
  go_enter Try.func23, Try.ntmps23
  go_upto_region 3 with (fail)
  go_cut [5, 6] (fun s5 s6 wx => ∃ gF : Nat, s5 = .slice (some ⟨gF, 0, none⟩) n n ∧ ∃ W : World, W = wx ∧ FmAt w W xs ys gF n 0 s6)
  case first =>
    go_region_with (first
      | (go_at_call 35; ((with_reducible refine (of_none w _ (below_to_drew ((Below.refl _ w).alloc (Nat.le_refl _) _)) w.heap.size n xs ys (Nat.le_refl _) (ar_new w (List.replicate n 0)).drew).mono ?_); rintro e w1 ⟨z, rfl, hz1⟩))
      | (go_at_call 35; ((with_reducible refine (of_none2 w _ (below_to_drew hr0)).mono ?_); rintro e w1 ⟨⟨g1, L1, rfl, ho1⟩, hb1⟩)))
    · go_wp2_with fail
      go_meet
      exact ⟨_, rfl, _, rfl, hz1⟩
    · go_wp2_with fail
      go_meet
      exact ⟨_, rfl, _, rfl, of_then_make ho1 hb1⟩
  case rest =>
    obtain ⟨gF, rfl, W, rfl, hst⟩ := hcut
    have HST := Lib.hid hst
    clear hst hmk hr0
    go_wp2_with fail
    go_loopw [6, 22] (fun z i wr => ∃ k : Nat, i = .int .i64 (k : Int) ∧ k ≤ n ∧ FmAt w wr xs ys gF n k z) (fun _ i _ => n - (intOf i).toNat)
    case atStart => exact ⟨0, rfl, Nat.zero_le _, HST.out⟩
    case round =>
      obtain ⟨k, rfl, hk, hst⟩ := hrel
      have HR := Lib.hid hst
      clear hst HST
      by_cases hlt : k < n
      · obtain ⟨b1, o1, e1, hb1, hc1⟩ := HA.out (by rw [u64s_len, ← HN.out]; omega)
        obtain ⟨b2, o2, e2, hb2, hc2⟩ := HA2.out (by rw [u64s_len, ← HM.out]; omega)
        have hcx := hc1 k _ (u64s_at (by rw [← HN.out]; exact hlt))
        have hcy := hc2 k _ (u64s_at (by rw [← HM.out]; exact hlt))
        clear hc1 hc2
        obtain ⟨gz, cz, Lz, LF, Z, S, rfl, hne, hwF, hoz, hF, hlF, hsF, hcF, hfr, hbw⟩ := HR.out
        have hcx' := (hbw.cell (p := ⟨b1, o1 + k, none⟩) hb1).trans hcx
        have hcy' := (hbw.cell (p := ⟨b2, o2 + k, none⟩) hb2).trans hcy
        obtain ⟨x, hx⟩ : ∃ x, x = xs[k]?.getD 0 := ⟨_, rfl⟩
        obtain ⟨y, hy⟩ : ∃ y, y = ys[k]?.getD 0 := ⟨_, rfl⟩
        have hx64 : x < 18446744073709551616 := by rw [hx]; exact get_big HX.out k
        have hy64 : y < 18446744073709551616 := by rw [hy]; exact get_big HY.out k
        have hxc : Fld.to x = Pl.co xs k := by rw [hx]; rfl
        have hyc : Fld.to y = Pl.co ys k := by rw [hy]; rfl
        rw [← hx] at hcx'
        rw [← hy] at hcy'
        have HXY := Lib.hid (And.intro hxc hyc)
        have HQ := Lib.hid (And.intro hoz (And.intro hF (And.intro hlF (And.intro hsF (And.intro hcF hfr)))))
        have HCY := Lib.hid hcy'
        have hwz := hbw.size
        have hev := eval_poly (some ⟨gz, 0, none⟩) (k + 1) cz x (Lz.take (k + 1)) wr (by omega) hx64 hoz.slice.symm (hoz.sm.take _).big hoz.pt.2.1
        obtain ⟨k1, hk1⟩ : ∃ k1, k1 = k + 1 := ⟨_, rfl⟩
        rw [← hk1] at hev ⊢
        have HK1 := Lib.hid hk1
        have hvz : Fld.to (Pl.hv x (Lz.take k1)) = Pl.val Z (Pl.co xs k) := by rw [Pl.hv_val, hk1, hoz.co, hxc]
        have hvl := Pl.hv_lt x (Lz.take k1)
        obtain ⟨th, hth⟩ : ∃ th, th = Pl.hv x (Lz.take k1) := ⟨_, rfl⟩
        rw [← hth] at hev hvz hvl
        have HVZ := Lib.hid hvz
        have HEV := Lib.hid hev
        clear hcx hcy hcy' hx hy hxc hyc hoz hF hlF hsF hcF hfr hev hvz hth hk1 HR
        subst e1
        go_wp2_with fail
        refine HEV.out.mono ?_
        rintro e w2 ⟨rfl, hb2w⟩
        rcases Nat.eq_zero_or_pos th with h0 | h0
        · subst h0
          go_wp2
          go_ret
          have hs := HQ.out.2.2.2.2.2.same hlt (by rw [← HVZ.out]; rfl)
          exact ⟨⟨fun h => absurd h hs, fun _ => rfl⟩, hbw.trans (hb2w.mono hwz)⟩
        · have ht0 : ((th : Int) == 0) = false := by rw [beq_eq_false_iff_ne]; omega
          have hbw2 : Below w.heap.size w w2 := hbw.trans (hb2w.mono hwz)
          have hF2 := HQ.out.2.1.below hb2w HQ.out.2.1.lt
          have hz2 := HQ.out.1.below hb2w HQ.out.1.lt
          have hcy2 := (hb2w.cell (p := ⟨b2, o2 + k, none⟩) (by show b2 < wr.heap.size; omega)).trans HCY.out
          have hev2 := fun W (hW : Below w2.heap.size w2 W) => eval_poly (some ⟨gF, 0, none⟩) n n x LF W (by omega) hx64 HQ.out.2.2.1.symm HQ.out.2.2.2.1.big ((hF2.below hW hF2.lt).rd (hF2.below hW hF2.lt).lt)
          have hvf : Fld.to (Pl.hv x LF) = Pl.val S (Pl.co xs k) := by rw [Pl.hv_val, HQ.out.2.2.2.2.1, HXY.out.1]
          have hvl2 := Pl.hv_lt x LF
          obtain ⟨v2, hv2⟩ : ∃ v2, v2 = Pl.hv x LF := ⟨_, rfl⟩
          rw [← hv2] at hev2 hvf hvl2
          have HVF := Lib.hid hvf
          have HEV2 := Lib.hid hev2
          have HF2 := Lib.hid hF2
          have HZ2 := Lib.hid hz2
          have hn0 : (0 : Int) ≤ (k : Int) ∧ (k : Int) < (n : Int) := by omega
          have hr2 : Below w2.heap.size w2 w2 := Below.refl _ _
          have hs2 := Fld.sub_lt y v2
          have hsub := fun W => sub_any y v2 W hy64 (by omega)
          have hts : Fld.to (Fld.sub y v2) = Pl.co ys k - Pl.val S (Pl.co xs k) := by rw [Fld.to_subF, HXY.out.2, HVF.out]
          obtain ⟨d, hd⟩ : ∃ d, d = Fld.sub y v2 := ⟨_, rfl⟩
          rw [← hd] at hs2 hsub hts
          have HSUB := Lib.hid hsub
          have HTS := Lib.hid hts
          clear hv2 hev2 hvf hF2 hz2 hd hsub hts
          subst e2
          obtain ⟨hn0, hn1⟩ := hn0
          go_wp2_with fail
          go_region_held3 (fun w' : World => w'.cell? ⟨b2, o2 + k, none⟩ = some (.int .u64 (y : Int)))
            ((first | assumption | exact ((⟨hb3.os, hb3.tape, hb3.output, hb3.size, hb3.block⟩ : Below w2.heap.size w2 w3).cell (p := ⟨b2, o2 + k, none⟩) (by show b2 < w2.heap.size; have := hbw2.size; omega)).trans hcy2))
            (first
              | (go_at_call 25; ((with_reducible refine (HEV2.out _ (below_to_drew hr2)).mono ?_); rintro e w3 ⟨rfl, hb3⟩))
              | (go_at_call 36; ((with_reducible refine (HSUB.out _).mono ?_); rintro e w4 ⟨rfl, rfl⟩)))
          have hb3w : Below w2.heap.size w2 w3 := ⟨hb3.os, hb3.tape, hb3.output, hb3.size, hb3.block⟩
          have hbw3 : Below w.heap.size w w3 := hbw2.trans (hb3w.mono hbw2.size)
          have hF3 := HF2.out.below hb3w HF2.out.lt
          have hz3 := HZ2.out.below hb3w HZ2.out.lt
          have HF3 := Lib.hid hF3
          have HZ3 := Lib.hid hz3
          clear hb3 hb3w hF3 hz3 hr2 hcy2
          go_wp2_with fail
          have hiv : Fld.to (Fld.pow th 2305843009213693949) = Fld.iv (Pl.val Z (Pl.co xs k)) := by rw [Fld.to_powI, HVZ.out]
          have hivl := Fld.pow_lt th 2305843009213693949
          have hin := inv_any th w3 (by omega)
          obtain ⟨iv, hiv'⟩ : ∃ iv, iv = Fld.pow th 2305843009213693949 := ⟨_, rfl⟩
          rw [← hiv'] at hiv hivl hin
          have HIV := Lib.hid hiv
          clear hiv hiv'
          refine hin.mono ?_
          rintro e w4 ⟨rfl, hb4⟩
          clear hin
          have hbw4 : Below w.heap.size w w4 := hbw3.trans (hb4.mono hbw3.size)
          have HF4 := Lib.hid (HF3.out.below hb4 HF3.out.lt)
          have HZ4 := Lib.hid (HZ3.out.below hb4 HZ3.out.lt)
          go_wp2_with fail
          have hml := Fld.mul_lt d iv
          have hmt : Fld.to (Fld.mul d iv) = (Pl.co ys k - Pl.val S (Pl.co xs k)) * Fld.iv (Pl.val Z (Pl.co xs k)) := by rw [Fld.to_mulF, HTS.out, HIV.out]
          have hmc := mul_any d iv w4 (by omega) (by omega)
          obtain ⟨m, hm⟩ : ∃ m, m = Fld.mul d iv := ⟨_, rfl⟩
          rw [← hm] at hml hmt hmc
          have HMT := Lib.hid hmt
          clear hm hmt
          refine hmc.mono ?_
          rintro e w5 ⟨rfl, rfl⟩
          clear hmc
          go_wp2_with fail
          have hk1n : k1 ≤ n := by have := HK1.out; omega
          have had := addTimes_any gF 0 n n LF (some ⟨gz, 0, none⟩) k1 cz (Lz.take k1) m w4 HF4.out HQ.out.2.2.2.1.big (by have := HQ.out.2.2.1; omega) hk1n (by omega) (by rw [HK1.out]; exact HZ4.out.slice.symm) (HQ.out.1.sm.take _).big (by omega)
            (fun hp => by
              rw [HK1.out] at hp
              obtain ⟨b, o, e, h1, h2⟩ := HZ4.out.pt.2.1 hp
              rw [HK1.out]
              exact ⟨b, o, e, by injection e with e; injection e with e; omega, h1, h2⟩)
          refine had.mono ?_
          rintro e w5 ⟨⟨r5, rfl⟩, hF5, hg5⟩
          have hz5 := HZ4.out.grown hg5 hne
          have hbw5 : Below w.heap.size w w5 := hbw4.trans (below_only hg5 hwF hbw4.size)
          have HF5 := Lib.hid hF5
          have HZ5 := Lib.hid hz5
          clear had hF5 hz5
          go_wp2_with fail
          have hwr := withRoot_any (some ⟨gz, 0, none⟩) k1 cz (k1 + 1) x (Lz.take k1) w5 (by rw [HK1.out]; exact HZ5.out.slice.symm) rfl (by omega) (HQ.out.1.sm.take _).big hx64 (by rw [HK1.out]; exact HZ5.out.pt.2.1)
          rw [HK1.out, HZ5.out.co, ← HK1.out] at hwr
          refine hwr.mono ?_
          rintro e w6 ⟨hmd, hb6⟩
          obtain ⟨g6, L6, rfl, hl6, ho6⟩ := hmd.own
          have HO6 := Lib.hid ho6
          have hF6 := HF5.out.below hb6 HF5.out.lt
          have HF6 := Lib.hid hF6
          have hbw6 : Below w.heap.size w w6 := hbw5.trans (hb6.mono hbw5.size)
          have hg6 : g6 ≠ gF := by have := HF5.out.lt; omega
          clear hwr hmd ho6 hF6
          go_wp2
          go_roundw
          case rel =>
            refine ⟨k1, by rw [HK1.out]; rfl, hk1n, g6, k1 + 1, L6, _, _, _, rfl, hg6, hwF, HO6.out, HF6.out, by rw [Pl.up_len]; exact HQ.out.2.2.1, Pl.up_sm HQ.out.2.2.2.1 _ _ _ _, rfl, ?_, hbw6⟩
            have hs := HQ.out.2.2.2.2.2.step (by rw [← HVZ.out]; exact fun h => by have := (Pl.to_eq_zero hvl).1 h; omega)
            have hco := Pl.co_up_all LF 0 (Lz.take k1) m k1 (by rw [HK1.out]; exact HZ5.out.slice.symm) (by have := HQ.out.2.2.1; omega)
            rw [hco, HQ.out.2.2.2.2.1, HMT.out, HXY.out.1, HK1.out, HZ5.out.co]
            exact hs
          case measure => simp [intOf]; omega
      · obtain rfl : k = n := by omega
        obtain ⟨gz, cz, Lz, LF, Z, S, rfl, hne, hwF, hoz, hF, hlF, hsF, hcF, hfr, hbw⟩ := HR.out
        have H1 := Lib.hid (And.intro hF (And.intro hlF (And.intro hsF (And.intro hcF hfr))))
        have hct := cut_any gF k k LF wr hF (hsF.take k) (by omega) (Nat.le_refl _) (by omega)
        have HCT := Lib.hid hct
        clear hoz hF hlF hsF hcF hfr hct HR
        go_wp2_with fail
        refine HCT.out.mono ?_
        rintro e w3 ⟨m, hmk, rfl, his, rfl⟩
        have HI := Lib.hid his
        clear his
        go_wp2
        go_ret
        obtain ⟨hF, hlF, hsF, hcF, hfr⟩ := H1.out
        have hco : Pl.co (LF.take k) = S := by rw [List.take_of_length_le (by omega)]; exact hcF
        refine ⟨⟨fun _ => ⟨S, ?_, hfr.fi⟩, fun h => absurd hfr.ds h⟩, hbw⟩
        have h := HI.out
        rw [hco] at h
        exact Got.poly ⟨gF, m, k, LF, rfl, hwF, hF, by omega, hlF.symm, hsF, h⟩

set_option maxRecDepth 100000 in
set_option maxHeartbeats 1000000 in
theorem from_ne (A A2 : Option Addr) (n m ca cb : Nat) (w : World) (hnm : n ≠ m) :
    Calls Try.prog 23 #[.slice A n ca, .slice A2 m cb] w fun e w' => e = .returned (.slice none 0 0) ∧ Below w.heap.size w w' := by
  have h1 : ((n : Int) != (m : Int)) = true := by rw [bne_iff_ne]; omega
  go_enter Try.func23, Try.ntmps23
  go_wp2
  go_ret
  exact ⟨rfl, Below.refl _ _⟩
end Go.Proofs.Ythnbkbmhlalpaaa
