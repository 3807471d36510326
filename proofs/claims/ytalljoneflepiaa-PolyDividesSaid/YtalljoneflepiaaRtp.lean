/- ROOTS, WITHOUT ANY PROGRAM: what splits a polynomial that has as many roots as its degree, and why it comes to an end. No condition. -/
import Derived.Test.YtalljoneflepiaaPwr
namespace Go.Proofs.Ytalljoneflepiaa
open Fld (F to)
namespace Pl

/-- y, raised to e, is 1. -/
def Sq (e : Nat) (y : F) : Prop := Fld.up y e = 1
theorem up_one : ∀ e, Fld.up (1 : F) e = 1
  | 0 => rfl
  | e + 1 => by rw [Fld.up_succ, up_one e]; grind
theorem sq_one (e : Nat) : Sq e 1 := up_one e
theorem sq_zero {e : Nat} (he : 0 < e) : ¬ Sq e 0 := by
  obtain ⟨k, rfl⟩ : ∃ k, e = k + 1 := ⟨e - 1, by omega⟩
  intro h
  unfold Sq at h
  rw [Fld.up_succ, Fin.mul_zero] at h
  exact Fld.one_ne h.symm

/-- No two roots are told apart by a number below k. -/
def Sep (e : Nat) (f : Pl) (k : Nat) : Prop := ∀ j, j < k → ∀ x y, val f x = 0 → val f y = 0 → (Sq e (x + to j) ↔ Sq e (y + to j))

theorem sep_end {e k : Nat} {f : Pl} {x y : F} (he : 0 < e) (h : Sep e f k) (hx : val f x = 0) (hy : val f y = 0) (hne : x ≠ y) : k < 2305843009213693951 := by
  refine Nat.lt_of_not_le fun hk => ?_
  have hall : ∀ z : F, Sq e (z + (x - y)) ↔ Sq e z := fun z => by
    have hlt : (z - y).val < k := Nat.lt_of_lt_of_le (z - y).isLt hk
    have h1 := h (z - y).val hlt x y hx hy
    rw [Fld.to_self] at h1
    rwa [show x + (z - y) = z + (x - y) by grind, show y + (z - y) = z by grind] at h1
  have hn : ∀ n : Nat, Sq e (to n * (x - y)) ↔ Sq e 0 := by
    intro n
    induction n with
    | zero => rw [Fld.to_zero, Fin.zero_mul]
    | succ n ih =>
      rw [Fld.to_add, Fld.to_one, show (to n + 1) * (x - y) = to n * (x - y) + (x - y) by grind, hall]
      exact ih
  have hd : x - y ≠ 0 := fun h0 => hne (by grind)
  have h1 := hn (Fld.iv (x - y)).val
  rw [Fld.to_self, show Fld.iv (x - y) * (x - y) = 1 by have := Fld.mul_iv hd; grind] at h1
  exact sq_zero he (h1.1 (sq_one e))

theorem two_roots {f : Pl} {d : Nat} (hf : Full f) (hd : Dg f d) (h2 : 2 ≤ d) : ∃ x y, val f x = 0 ∧ val f y = 0 ∧ x ≠ y := by
  obtain ⟨d', hd', hl⟩ := hf
  have hdd := hd.uniq hd'
  have hnd := rts_nodup f
  match hr : rts f with
  | [] => rw [hr] at hl; simp at hl; omega
  | [_] => rw [hr] at hl; simp at hl; omega
  | a :: b :: l =>
    rw [hr] at hnd
    have ha : a ∈ rts f := by rw [hr]; simp
    have hb : b ∈ rts f := by rw [hr]; simp
    refine ⟨a, b, (mem_rts f a).1 ha, (mem_rts f b).1 hb, ?_⟩
    rintro rfl
    simp at hnd

theorem to_inj' {a b : Nat} (ha : a < 2305843009213693951) (hb : b < 2305843009213693951) (h : to a = to b) : a = b := by
  have h1 := congrArg Fin.val h
  rw [Fld.to_val, Fld.to_val, Nat.mod_eq_of_lt (show a < Fld.P from ha), Nat.mod_eq_of_lt (show b < Fld.P from hb)] at h1
  exact h1
/-- The numbers below P at which f is 0, each once. -/
def Rof (f : Pl) (rs : List Nat) : Prop := Sm rs ∧ rs.Nodup ∧ ∀ x, x < 2305843009213693951 → (x ∈ rs ↔ val f (to x) = 0)
theorem Rof.len {f : Pl} {rs : List Nat} {d : Nat} (h : Rof f rs) (hd : Dg f d) : rs.length ≤ d := by
  have h1 := roots_le d f hd (rs.map to) ?_ ?_
  · rwa [List.length_map] at h1
  · rw [List.Nodup, List.pairwise_map]
    refine List.Pairwise.imp_of_mem ?_ h.2.1
    intro a b ha hb hab e
    refine hab ?_
    exact to_inj' (h.1 a ha) (h.1 b hb) e
  · intro x hx
    obtain ⟨n, hn, rfl⟩ := List.mem_map.1 hx
    exact (h.2.2 n (h.1 n hn)).1 hn
theorem Rof.const {f : Pl} (h : Dg f 0) : Rof f [] := ⟨Sm.nil, List.nodup_nil, fun x _ => ⟨fun h => absurd h List.not_mem_nil, fun hx => by
  have h1 := rts_le h
  have h2 := (mem_rts f (to x)).2 hx
  rw [List.eq_nil_of_length_eq_zero (Nat.le_zero.1 h1)] at h2
  exact absurd h2 List.not_mem_nil⟩⟩
theorem sub_zero_f (a : F) : a = a - 0 := by grind
theorem Rof.line {f : Pl} (h : Lt f 2) (h1 : f 1 = 1) {c : Nat} (h0 : f 0 = to c) : Rof f [Fld.sub 0 c] := by
  have hs := Fld.sub_lt 0 c
  have e : f = lin (0 - to c) := ext fun n => by
    match n with
    | 0 => rw [h0]; show _ = 0 - (0 - to c); grind
    | 1 => rw [h1]; show (1 : F) = 1 - 0; exact sub_zero_f 1
    | n + 2 => rw [h (n + 2) (by omega), Lt.lin _ (n + 2) (by omega)]
  refine ⟨fun x hx => by rw [List.mem_singleton.1 hx]; exact hs, by simp, fun x hx => ?_⟩
  rw [List.mem_singleton, e, val_lin]
  constructor
  · rintro rfl
    rw [Fld.to_subF, Fld.to_zero]; grind
  · intro hv
    exact to_inj' hx hs (by rw [Fld.to_subF, Fld.to_zero]; grind)
theorem Rof.mul {f g h : Pl} {a b : List Nat} (hg : Po g) (hh : Po h) (e : f = g * h) (ha : Rof g a) (hb : Rof h b) (hd : ∀ x, ¬ (val g x = 0 ∧ val h x = 0)) : Rof f (a ++ b) := by
  refine ⟨fun x hx => ?_, List.nodup_append.2 ⟨ha.2.1, hb.2.1, fun x hx y hy hxy => ?_⟩, fun x hx => ?_⟩
  · rcases List.mem_append.1 hx with h1 | h1
    · exact ha.1 x h1
    · exact hb.1 x h1
  · subst hxy
    exact hd (to x) ⟨(ha.2.2 x (ha.1 x hx)).1 hx, (hb.2.2 x (hb.1 x hy)).1 hy⟩
  · rw [List.mem_append, ha.2.2 x hx, hb.2.2 x hx, e, val_mul hg hh, Fld.mul_eq_zero]

/-- A product of x less some numbers, no two the same, of which none below k tells two apart. -/
structure Spl (e : Nat) (f : Pl) (d k : Nat) : Prop where
  dg : Dg f d
  one : f d = 1
  full : Full f
  sep : Sep e f k

theorem to_less : to 2305843009213693950 + 1 = 0 := by
  have h := Fld.to_add 2305843009213693950 1
  rw [show to (2305843009213693950 + 1) = 0 from Fin.ext (by rw [Fld.to_val]; exact Nat.mod_self 2305843009213693951), Fld.to_one] at h
  exact h.symm

theorem Spl.step {e d k : Nat} {f R g : Pl} {m : F} (hm : m + 1 = 0) (h : Spl e f d k) (hR : Po R) (hc : Cg f (pw (lin (0 - to k)) e) R) (hg : Gc f (R + C m) g) :
    ∃ q d1 d2, DM f g q 0 ∧ d1 + d2 = d ∧ Spl e g d1 (k + 1) ∧ Spl e q d2 (k + 1) ∧ Po q ∧ f = g * q ∧ ∀ x, ¬ (val g x = 0 ∧ val q x = 0) := by
  obtain ⟨q, hq, hfq⟩ := hg.left
  have hf := h.dg.po
  have g0 : g ≠ 0 := by rintro rfl; exact h.dg.ne (by rw [hfq, zero_mul])
  have q0 : q ≠ 0 := by rintro rfl; exact h.dg.ne (by rw [hfq, mul_zero])
  obtain ⟨d1, hd1⟩ := hg.1.dg g0
  obtain ⟨d2, hd2⟩ := hq.dg q0
  have hdd : d1 + d2 = d := (hfq ▸ hd1.mul hd2 : Dg f (d1 + d2)).uniq h.dg
  have hg1 : g d1 = 1 := hg.2.2 d1 hd1
  have hq1 : q d2 = 1 := by
    have h1 := top_mul hd1.2 hd2.2
    rw [← hfq, hdd, h.one, hg1] at h1
    grind
  obtain ⟨fg, fq, hdis⟩ := full_parts hg.1 hq hfq h.full
  have hval : ∀ x, val f x = 0 → (val g x = 0 ↔ Sq e (x + to k)) := fun x hx => by
    rw [hg.val hf (hR.add (Po.C _)), val_add hR (Po.C _), val_C]
    have h1 := Dv.val hf hc hx
    rw [val_sub (Po.pw (Po.lin _) e) hR, val_pw (Po.lin _), val_lin, show x - (0 - to k) = x + to k by grind] at h1
    unfold Sq
    constructor
    · rintro ⟨_, h2⟩; grind
    · intro h2; exact ⟨hx, by grind⟩
  have fromg : ∀ x, val g x = 0 → val f x = 0 := fun x hx => Dv.val hg.1 hg.left hx
  have fromq : ∀ x, val q x = 0 → val f x = 0 := fun x hx => by rw [hfq, val_mul hg.1 hq, hx, Fin.mul_zero]
  refine ⟨q, d1, d2, ⟨hq, Po.zero, by rw [add_zero, mul_comm]; exact hfq, fun d hd => Lt.zero d⟩, hdd, ⟨hd1, hg1, fg, fun j hj x y hx hy => ?_⟩, ⟨hd2, hq1, fq, fun j hj x y hx hy => ?_⟩, hq, hfq, hdis⟩
  · rcases Nat.lt_or_ge j k with h1 | h1
    · exact h.sep j h1 x y (fromg x hx) (fromg y hy)
    · obtain rfl : j = k := by omega
      rw [← hval x (fromg x hx), ← hval y (fromg y hy)]
      exact ⟨fun _ => hy, fun _ => hx⟩
  · rcases Nat.lt_or_ge j k with h1 | h1
    · exact h.sep j h1 x y (fromq x hx) (fromq y hy)
    · obtain rfl : j = k := by omega
      rw [← hval x (fromq x hx), ← hval y (fromq y hy)]
      exact ⟨fun h2 => absurd ⟨h2, hx⟩ (hdis x), fun h2 => absurd ⟨h2, hy⟩ (hdis y)⟩

theorem lin_zero : lin (0 - to 0) = X := by
  rw [Fld.to_zero]
  exact ext fun n => by
    unfold lin
    rw [sub_at]
    cases n with
    | zero => rw [C_0]; grind
    | succ n => rw [C_s]; grind

theorem Spl.first {e : Nat} {a R g : Pl} {m : F} (hm : m + 1 = 0) (ha : Po a) (h0 : a ≠ 0) (hR : Po R) (hc : Cg a (pw (lin (0 - to 0)) 2305843009213693951) R) (hg : Gc a (R + sh (C m)) g) : ∃ d, Spl e g d 0 ∧ (∀ x, val g x = 0 ↔ val a x = 0) ∧ Dv g a := by
  have hs : R + sh (C m) = R - X := ext fun n => by
    rw [add_at, sub_at]
    match n with
    | 0 => show R 0 + 0 = R 0 - 0; grind
    | 1 => show R 1 + m = R 1 - 1; grind
    | n + 2 => show R (n + 2) + 0 = R (n + 2) - 0; grind
  rw [hs] at hg
  rw [lin_zero] at hc
  have hxp : Dv g xp := by
    have h1 := Dv.add (Dv.trans hg.left hc) hg.right
    unfold xp
    rwa [show pw X 2305843009213693951 - R + (R - X) = pw X 2305843009213693951 - X from ext fun n => by simp only [add_at, sub_at]; grind] at h1
  have g0 : g ≠ 0 := by
    rintro rfl
    exact h0 hg.left.zero_left
  obtain ⟨d, hd⟩ := hg.1.dg g0
  refine ⟨d, ⟨hd, hg.2.2 d hd, full_of_dv hg.1 hxp, fun j hj => absurd hj (Nat.not_lt_zero j)⟩, fun x => ?_, hg.left⟩
  rw [hg.val ha (hR.sub Po.X)]
  refine ⟨fun h => h.1, fun h => ⟨h, ?_⟩⟩
  have h1 := Dv.val ha hc h
  rw [val_sub (Po.pw Po.X _) hR, val_pw Po.X, val_X, pow_P] at h1
  rw [val_sub hR Po.X, val_X]
  grind
end Pl
end Go.Proofs.Ytalljoneflepiaa
