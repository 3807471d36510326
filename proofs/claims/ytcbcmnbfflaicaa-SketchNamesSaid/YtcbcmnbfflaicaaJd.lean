/-
  Joined texts: Rpa Rpb Rpc Hpa Lvs Vls Rpg Lwc Hpb LwE Lwf LwJ LwI.
-/
import Derived.Test.YtcbcmnbfflaicaaJc
import Derived.RangeFuncBox
import Derived.Laws.AppendOwn
import Derived.Test.YtcbcmnbfflaicaaJb
import Derived.Test.YtcbcmnbfflaicaaJe
import Derived.Laws.AppendOwnNone
import Derived.Test.YtcbcmnbfflaicaaJa

/-
  The reference's polynomials: a list that grows by one number; a list, trimmed; a coefficient.
-/
namespace Go.Proofs.Ytcbcmnbfflaicaa
open Go.RowKit

/-- A list of its own, from block B on. -/
def Gl (B : Nat) (w : World) (o : Value) (L : List Nat) : Prop := ∃ A c, o = .slice A L.length c ∧ w.ownsRow B 22 1 (.slice A L.length c) L.length (u64s L)
theorem Gl.nil (B : Nat) (w : World) : Gl B w (.slice none 0 0) [] := ⟨none, 0, rfl, World.ownsRow_nil w B 22 1⟩
theorem Gl.below {B : Nat} {w w' : World} {o : Value} {L : List Nat} (h : Gl B w o L) (hb : Below w.heap.size w w') : Gl B w' o L := by
  obtain ⟨A, c, e, h1⟩ := h
  exact ⟨A, c, e, own_below h1 hb⟩
theorem Gl.pt {B : Nat} {w : World} {o : Value} {L : List Nat} (h : Gl B w o L) : ∃ A c, o = .slice A L.length c ∧ Pt w A L.length c L ∧ ∀ bl off, A = some ⟨bl, off, none⟩ → B ≤ bl := by
  obtain ⟨A, c, e, h1⟩ := h
  refine ⟨A, c, e, ⟨rfl, Rd.of_own h1, ?_, fun ha => ?_⟩, fun bl off ha => ?_⟩
  · rcases h1.2 with ⟨h2, h3⟩ | ⟨g, cap, cur, h2, _, _, h3, _⟩
    · omega
    · injection h2 with _ _ h2; omega
  · rcases h1.2 with ⟨h2, h3⟩ | ⟨g, cap, cur, h2, _⟩
    · injection h2
    · rw [ha] at h2; injection h2 with h2; cases h2
  · rw [ha] at h1
    exact (h1.lt bl rfl).1

theorem wpList_push64 {ops : Array Oper} {rest : List Oper} {o : Oper} {a : Act} {Q : Exit → Act → World → Prop} {w : World} (hgd : o.guard = none) (s x : Operand)
    (ho : o.op = .call { callee := .builtin .append, args := #[s, x], argTypes := #[25, 25] }) (B v : Nat) (L : List Nat) (u : Value) (hg : Gl B w u L) (hs : a.eval s = u) (hx : a.eval x = .slice (some ⟨w.heap.size, 0, none⟩) 1 1) (hk : L.length ≤ 1000000000) (hB : B ≤ w.heap.size)
    (h : ∀ z w1, Gl B w1 z (L ++ [v]) → Below B w w1 → wpList Try.prog ops Q rest (a.put o.dst z) w1) : wpList Try.prog ops Q (o :: rest) a (w.alloc (.cells #[.int .u64 (v : Int)] 22)) := by
  obtain ⟨i0, hi, hz0, hz1, hz2⟩ := info_parts info_u64
  obtain ⟨A, c, rfl, hrow⟩ := hg
  refine wpList_append_own _ hgd s x 25 ho B 22 i0 (.int .u64 0) 1 8 Try.underlying25 hi hz0 hz1 hz2 rfl (by decide) _ _ _ hs (hrow.alloc _) ⟨w.heap.size, 0, none⟩ 1 1 [.int .u64 (v : Int)] hx rfl (cell_one_new _ _ _) (by simp [Value.oneCell']) (by unfold maxLen; omega) (by omega) (by simp; omega) ?_
  intro v' w1 hown hgrow _
  obtain ⟨g, cap, rfl⟩ := ownsRow_succ hown
  refine h _ w1 ⟨_, cap, by rw [List.length_append]; rfl, ?_⟩ ?_
  · rw [u64s_snoc, List.length_append]
    exact hown
  · have hg2 : (w.alloc (.cells #[.int .u64 (v : Int)] 22)).grownBy w1 (Value.slice A L.length c).ownBlock := hgrow
    exact ((Below.refl B w).alloc hB _).grown hg2 (by simp; omega) (fun j e => (hrow.lt j e).1)

theorem take_next {l : List Nat} {k : Nat} (h : k < l.length) : l.take (k + 1) = l.take k ++ [l[k]?.getD 0] := by
  rw [List.take_succ_eq_append_getElem h, List.getElem?_eq_getElem h]; rfl
theorem Rd.num {B : Nat} {w : World} {A : Option Addr} {l : List Nat} (h : Rd B w A (u64s l)) {k : Nat} (hk : k < l.length) : ∃ b off, A = some ⟨b, off, none⟩ ∧ b < B ∧ w.cell? ⟨b, off + k, none⟩ = some (.int .u64 ((l[k]?.getD 0 : Nat) : Int)) := by
  obtain ⟨b, off, e, hb, hc⟩ := h (by rw [u64s_len]; omega)
  exact ⟨b, off, e, hb, hc k _ (u64s_at hk)⟩

theorem Pl.co_num (l : List Nat) : Pl.co (l.map Fld.num) = Pl.co l := Pl.ext fun i => by
  rw [Pl.co_at, Pl.co_at, List.getElem?_map]
  cases l[i]? with
  | none => rfl
  | some x => exact Fld.to_num x
theorem Pl.sm_num (l : List Nat) : Pl.Sm (l.map Fld.num) := fun x hx => by
  obtain ⟨y, _, rfl⟩ := List.mem_map.1 hx
  exact Fld.num_lt y

end Go.Proofs.Ytcbcmnbfflaicaa

/-
  The reference's sums of polynomials, products with a number, and values.
-/
namespace Go.Proofs.Ytcbcmnbfflaicaa
open Go.RowKit

namespace Pl
theorem co_tab_all {f : Nat → Nat} {n : Nat} {s : Pl} (hl : Lt s n) (h : ∀ i, i < n → Fld.to (f i) = s i) : co (tab f n) = s := ext fun i => by
  rw [co_tab]
  by_cases hi : i < n
  · rw [if_pos hi, h i hi]
  · rw [if_neg hi, hl i (by omega)]
end Pl
theorem Rd.at_world {w wr : World} {A : Option Addr} {vs : List Value} (h : Rd w.heap.size w A vs) (hb : Below w.heap.size w wr) : Rd wr.heap.size wr A vs := (h.below hb).more hb.size

theorem hv_drop (x : Nat) (a : List Nat) (k : Nat) (h : k < a.length) : Pl.hv x (a.drop k) = Fld.add (Fld.mul (Pl.hv x (a.drop (k + 1))) x) (a[k]?.getD 0) := by
  rw [List.drop_eq_getElem_cons h, List.getElem?_eq_getElem h]; rfl

end Go.Proofs.Ytcbcmnbfflaicaa

/-
  The reference's products of polynomials.
-/
namespace Go.Proofs.Ytcbcmnbfflaicaa
open Go.RowKit

/-- The sum of the first j products that stand at n together. -/
def sm (a b : List Nat) (n : Nat) : Nat → Nat
  | 0 => 0
  | j + 1 => Fld.add (sm a b n j) (Fld.mul (a[j]?.getD 0) (b[n - j]?.getD 0))
namespace Pl
theorem z1 (x : Fld.F) : 0 + x * 0 = 0 := by rw [Fin.mul_zero, Fin.add_zero]
theorem z2 (x : Fld.F) : 0 + 0 * x = 0 := by rw [Fin.zero_mul, Fin.add_zero]
def sumf (g : Nat → Fld.F) : Nat → Fld.F
  | 0 => 0
  | j + 1 => sumf g j + g j
theorem sumf_front (g : Nat → Fld.F) : ∀ j, sumf g (j + 1) = g 0 + sumf (fun i => g (i + 1)) j
  | 0 => by show 0 + g 0 = g 0 + 0; grind
  | j + 1 => by rw [sumf, sumf_front g j]; show _ = g 0 + (sumf (fun i => g (i + 1)) j + g (j + 1)); grind
theorem sumf_mul : ∀ (n : Nat) (s t : Pl), sumf (fun i => s i * t (n - i)) (n + 1) = (s * t) n
  | 0, s, t => by rw [sumf_front, mul_0]; show s 0 * t 0 + 0 = _; grind
  | n + 1, s, t => by
    rw [sumf_front, mul_s, ← sumf_mul n (tl s) t]
    show s 0 * t (n + 1) + sumf (fun i => s (i + 1) * t (n + 1 - (i + 1))) (n + 1) = s 0 * t (n + 1) + sumf (fun i => s (i + 1) * t (n - i)) (n + 1)
    congr 2
    funext i
    rw [show n + 1 - (i + 1) = n - i by omega]
theorem sm_sumf (a b : List Nat) (n : Nat) : ∀ j, Fld.to (sm a b n j) = sumf (fun i => co a i * co b (n - i)) j
  | 0 => rfl
  | j + 1 => by rw [sm, Fld.to_addF, Fld.to_mulF, sm_sumf a b n j]; rfl
theorem co_prod (a b : List Nat) (K : Nat) (hK : K = a.length + b.length - 1) : co (tab (fun n => sm a b n (n + 1)) K) = co a * co b := by
  refine co_tab_all ?_ fun i _ => by rw [sm_sumf]; exact sumf_mul i _ _
  rcases Nat.eq_zero_or_pos a.length with h | h
  · rw [List.eq_nil_of_length_eq_zero h, co_nil, zero_mul]; exact Lt.zero _
  · rcases Nat.eq_zero_or_pos b.length with h' | h'
    · rw [List.eq_nil_of_length_eq_zero h', co_nil, mul_zero]; exact Lt.zero _
    · obtain ⟨n, hn⟩ : ∃ n, a.length = n + 1 := ⟨a.length - 1, by omega⟩
      obtain ⟨m, hm⟩ : ∃ m, b.length = m + 1 := ⟨b.length - 1, by omega⟩
      intro i hi
      rw [← sumf_mul i]
      have h0 : ∀ j, sumf (fun x => co a x * co b (i - x)) j = 0 := by
        intro j
        induction j with
        | zero => rfl
        | succ j ih =>
          rw [sumf, ih]
          rcases Nat.lt_or_ge j (n + 1) with h1 | h1
          · rw [Lt.co b (i - j) (by omega)]; exact z1 _
          · rw [Lt.co a j (by omega)]; exact z2 _
      exact h0 _
end Pl

end Go.Proofs.Ytcbcmnbfflaicaa

/-
  The statements' helpers: whether numbers are the same; the first numbers of a list.
-/
namespace Go.Proofs.Ytcbcmnbfflaicaa
open Go.RowKit

end Go.Proofs.Ytcbcmnbfflaicaa

/-
  The document's example: (x - 1)(x - 2), its roots, what has 5 at 0 and 7 at 1, and the value at 5.
-/
namespace Go.Proofs.Ytcbcmnbfflaicaa
open Go.RowKit

/-! ### lists that rise -/
theorem rise_uniq : ∀ (a b : List Nat), a.Pairwise (· < ·) → b.Pairwise (· < ·) → (∀ x, x ∈ a ↔ x ∈ b) → a = b
  | [], [], _, _, _ => rfl
  | [], y :: b, _, _, h => absurd ((h y).2 List.mem_cons_self) List.not_mem_nil
  | x :: a, [], _, _, h => absurd ((h x).1 List.mem_cons_self) List.not_mem_nil
  | x :: a, y :: b, ha, hb, h => by
    have ha' := List.pairwise_cons.1 ha
    have hb' := List.pairwise_cons.1 hb
    have hxy : x = y := by
      rcases List.mem_cons.1 ((h x).1 List.mem_cons_self) with e | e
      · exact e
      · rcases List.mem_cons.1 ((h y).2 List.mem_cons_self) with e' | e'
        · exact e'.symm
        · have := hb'.1 x e
          have := ha'.1 y e'
          omega
    subst hxy
    rw [rise_uniq a b ha'.2 hb'.2 fun z => ?_]
    constructor
    · intro hz
      rcases List.mem_cons.1 ((h z).1 (List.mem_cons_of_mem _ hz)) with e | e
      · have := ha'.1 z hz; omega
      · exact e
    · intro hz
      rcases List.mem_cons.1 ((h z).2 (List.mem_cons_of_mem _ hz)) with e | e
      · have := hb'.1 z hz; omega
      · exact e
theorem Up.rise {l : List Nat} (h : Up l) (hn : l.Nodup) : l.Pairwise (· < ·) :=
  (List.Pairwise.and h hn).imp fun ⟨h1, h2⟩ => Nat.lt_of_le_of_ne h1 h2
theorem rof_uniq {f : Pl} {a b : List Nat} (ha : Pl.Rof f a) (hua : Up a) (hb : Pl.Rof f b) (hub : Up b) : a = b :=
  rise_uniq a b (hua.rise ha.2.1) (hub.rise hb.2.1) fun x => by
    constructor
    · intro hx; exact (hb.2.2 x (ha.1 x hx)).2 ((ha.2.2 x (ha.1 x hx)).1 hx)
    · intro hx; exact (ha.2.2 x (hb.1 x hx)).2 ((hb.2.2 x (hb.1 x hx)).1 hx)

/-- The example's polynomial. -/
def LvL : List Nat := [2, 2305843009213693948, 1]
theorem LvL_tr : Pl.Tr LvL := ⟨by intro x hx; simp [LvL] at hx; omega, .inr (by decide)⟩
theorem LvL_co : Pl.co LvL = Pl.prodR [1, 2] := by
  have h := Pl.co_prod [Fld.sub 0 1, 1] [Fld.sub 0 2, 1] 3 rfl
  rw [Pl.co_root, Pl.co_root] at h
  show Pl.co LvL = Pl.lin (Fld.to 1) * (Pl.lin (Fld.to 2) * Pl.C 1)
  rw [Pl.mul_one, ← h]
  congr 1
theorem lv_rof : Pl.Rof (Pl.co LvL) [1, 2] := by
  refine ⟨by intro x hx; simp at hx; omega, by decide, fun x hx => ?_⟩
  rw [LvL_co]
  show _ ↔ Pl.val (Pl.lin (Fld.to 1) * (Pl.lin (Fld.to 2) * Pl.C 1)) (Fld.to x) = 0
  rw [Pl.mul_one, Pl.val_mul (Pl.Po.lin _) (Pl.Po.lin _), Pl.val_lin, Pl.val_lin, Fld.mul_eq_zero]
  have key : ∀ c, c < 2305843009213693951 → (Fld.to x - Fld.to c = 0 ↔ x = c) := fun c hc => by
    constructor
    · intro h; exact Pl.to_inj' hx hc (by grind)
    · intro h; rw [h]; grind
  rw [key 1 (by omega), key 2 (by omega)]
  simp
theorem lv_fi : Pl.Fi [0, 1] [5, 7] 2 (Pl.co [5, 2]) := by
  refine ⟨Pl.Lt.co [5, 2], fun j hj => ?_⟩
  match j, hj with
  | 0, _ => show Pl.val (Pl.co [5, 2]) (Fld.to 0) = Fld.to 5; rw [← Pl.hv_val]; congr 1
  | 1, _ => show Pl.val (Pl.co [5, 2]) (Fld.to 1) = Fld.to 7; rw [← Pl.hv_val]; congr 1
theorem lv_dis : Pl.Dis [0, 1] 2 := by
  intro i j hi hj
  obtain rfl : j = 1 := by omega
  obtain rfl : i = 0 := by omega
  show Fld.to 0 ≠ Fld.to 1
  intro h
  exact absurd (Pl.to_inj' (by omega) (by omega) h) (by omega)
theorem lv_ev : Pl.hv 5 LvL = 12 := by decide +kernel

theorem rd_news (w : World) (l : List Nat) : Rd (w.alloc (.cells (u64s l).toArray 22)).heap.size (w.alloc (.cells (u64s l).toArray 22)) (some ⟨w.heap.size, 0, none⟩) (u64s l) := Rd.of_blk (blk_new w 22 _)

theorem lv_roots (w : World) (A : Option Addr) (c : Nat) (h : Pt w A 3 c LvL) : Calls Try.prog 52 #[.slice A 3 c] w fun e w' => (∃ A c, e = .returned (.slice A 2 c) ∧ Pt w' A 2 c [1, 2]) ∧ Below w.heap.size w w' := by
  refine (roots_any A 3 c LvL w h.1 (by omega) LvL_tr.1.big h.2.1).mono ?_
  rintro e w' ⟨⟨A', n, c', rs, rfl, hp, _, hr⟩, hb⟩
  have hne : Pl.co LvL ≠ 0 := fun h => by have := LvL_tr.zero h; cases this
  have hrs := rof_uniq (hr hne).1 (hr hne).2 lv_rof (by unfold Up; decide)
  subst hrs
  have hn : n = 2 := hp.1
  subst hn
  exact ⟨⟨A', c', rfl, hp⟩, hb⟩
theorem below_new {w1 w2 : World} {o : Obj} (h : Below (w1.alloc o).heap.size (w1.alloc o) w2) : Below w1.heap.size w1 w2 := ((Below.refl _ w1).alloc (Nat.le_refl _) _).trans (h.mono (by simp))
theorem Pt.new {w : World} {A : Option Addr} {n c : Nat} {l : List Nat} (h : Pt w A n c l) (o : Obj) : Pt (w.alloc o) A n c l := h.below ((Below.refl _ w).alloc (Nat.le_refl _) _)

end Go.Proofs.Ytcbcmnbfflaicaa

/-
  Values that are polynomials, and what each call tells of them: the program's calls and the reference's.
-/
namespace Go.Proofs.Ytcbcmnbfflaicaa
open Go.RowKit

/-- A slice of up to d numbers of 64 bits that says s. -/
def Qv (w : World) (o : Value) (s : Pl) (d : Nat) : Prop := ∃ A n c l, o = .slice A n c ∧ Pt w A n c l ∧ (∀ y ∈ l, y < 18446744073709551616) ∧ n ≤ d ∧ Pl.co l = s
/-- The same, trimmed. -/
def Tv (w : World) (o : Value) (s : Pl) (d : Nat) : Prop := ∃ A n c l, o = .slice A n c ∧ Pt w A n c l ∧ Pl.Is l s ∧ n ≤ d
theorem Qv.below {w w' : World} {o : Value} {s : Pl} {d : Nat} (h : Qv w o s d) (hb : Below w.heap.size w w') : Qv w' o s d := by
  obtain ⟨A, n, c, l, e, h1, h2⟩ := h
  exact ⟨A, n, c, l, e, h1.below hb, h2⟩
theorem Tv.below {w w' : World} {o : Value} {s : Pl} {d : Nat} (h : Tv w o s d) (hb : Below w.heap.size w w') : Tv w' o s d := by
  obtain ⟨A, n, c, l, e, h1, h2⟩ := h
  exact ⟨A, n, c, l, e, h1.below hb, h2⟩
theorem Qv.new {w : World} {o : Value} {s : Pl} {d : Nat} (h : Qv w o s d) (x : Obj) : Qv (w.alloc x) o s d := h.below ((Below.refl _ w).alloc (Nat.le_refl _) _)
theorem Tv.new {w : World} {o : Value} {s : Pl} {d : Nat} (h : Tv w o s d) (x : Obj) : Tv (w.alloc x) o s d := h.below ((Below.refl _ w).alloc (Nat.le_refl _) _)
theorem Tv.q {w : World} {o : Value} {s : Pl} {d : Nat} (h : Tv w o s d) : Qv w o s d := by
  obtain ⟨A, n, c, l, e, h1, h2, h3⟩ := h
  exact ⟨A, n, c, l, e, h1, h2.1.1.big, h3, h2.2⟩
theorem Qv.po {w : World} {o : Value} {s : Pl} {d : Nat} (h : Qv w o s d) : Pl.Po s := by
  obtain ⟨A, n, c, l, e, h1, h2, h3, h4⟩ := h
  exact h4 ▸ Pl.Po.co l
theorem Qv.lt {w : World} {o : Value} {s : Pl} {d : Nat} (h : Qv w o s d) : Pl.Lt s d := by
  obtain ⟨A, n, c, l, e, h1, h2, h3, h4⟩ := h
  exact h4 ▸ (Pl.Lt.co l).mono (by have := h1.1; omega)
theorem Tv.to {w : World} {o : Value} {s t : Pl} {d : Nat} (h : Tv w o s d) (e : s = t) : Tv w o t d := e ▸ h
theorem Tv.less {w : World} {o : Value} {s : Pl} {d k : Nat} (h : Tv w o s d) (hl : Pl.Lt s k) : Tv w o s k := by
  obtain ⟨A, n, c, l, e, h1, h2, h3⟩ := h
  exact ⟨A, n, c, l, e, h1, h2, by have := h2.1.len (h2.2.symm ▸ hl); have := h1.1; omega⟩
theorem Tv.mk {lo : Nat} {s : Pl} {e : Ending} {w' : World} {d : Nat} (h : Poly lo s e w') (hl : Pl.Lt s d) : ∃ z, e = .returned z ∧ Tv w' z s d := by
  obtain ⟨A, n, c, l, e, h1, h2, _⟩ := h
  exact ⟨_, e, A, n, c, l, rfl, h1, h2, by have := h2.1.len (h2.2.symm ▸ hl); have := h1.1; omega⟩
theorem Qv.nil (w : World) (d : Nat) : Qv w (.slice none 0 0) 0 d := ⟨none, 0, 0, [], rfl, Pt.nil w, (by intro y hy; cases hy), Nat.zero_le _, Pl.co_nil⟩
theorem Tv.nil (w : World) (d : Nat) : Tv w (.slice none 0 0) 0 d := ⟨none, 0, 0, [], rfl, Pt.nil w, ⟨Pl.Tr.nil, Pl.co_nil⟩, Nat.zero_le _⟩
/-- What is told of a polynomial's length. -/
theorem Tv.open_ {w : World} {o : Value} {s : Pl} {d : Nat} (h : Tv w o s d) : ∃ A n c, o = .slice A n c ∧ n ≤ d ∧ (n = 0 ↔ s = 0) ∧ ∀ k, Pl.Dg s k → n = k + 1 := by
  obtain ⟨A, n, c, l, e, h1, h2, h3⟩ := h
  refine ⟨A, n, c, e, h3, ?_, fun k hk => ?_⟩
  · rw [h1.1, h2.1.len_zero, h2.2]
  · rw [h1.1]; exact len_of_dg h2.1 (h2.2.symm ▸ hk)

/-- The value, as a number. -/
noncomputable def vl (s : Pl) (x : Nat) : Nat := (Pl.val s (Fld.to x)).val
theorem vl_lt (s : Pl) (x : Nat) : vl s x < 2305843009213693951 := (Pl.val s (Fld.to x)).isLt
theorem to_vl (s : Pl) (x : Nat) : Fld.to (vl s x) = Pl.val s (Fld.to x) := Fld.to_self _
theorem hv_vl (x : Nat) (l : List Nat) : Pl.hv x l = vl (Pl.co l) x := Fld.to_inj (Pl.hv_lt x l) (vl_lt _ _) (by rw [to_vl, Pl.hv_val])
theorem vl_zero (s : Pl) (x : Nat) : vl s x = 0 ↔ Pl.val s (Fld.to x) = 0 := by rw [← Pl.to_eq_zero (vl_lt s x), to_vl]

section
variable {w : World} {o o2 : Value} {s t : Pl} {d k : Nat}
theorem trim_v (h : Qv w o s d) (hd : d ≤ 100000) : Calls Try.prog 66 #[o] w fun e w' => (∃ z, e = .returned z ∧ Tv w' z s d) ∧ Below w.heap.size w w' := by
  have hl := h.lt
  obtain ⟨A, n, c, l, rfl, h1, h2, h3, rfl⟩ := h
  exact (trim_poly A n c l w h1.1 (by omega) h2 h1.2.1).mono fun e w' ⟨g, b⟩ => ⟨Tv.mk g.poly hl, b⟩
theorem add_v (h : Qv w o s d) (h' : Qv w o2 t k) (hd : d ≤ 100000) (hk : k ≤ 100000) : Calls Try.prog 70 #[o, o2] w fun e w' => (∃ z, e = .returned z ∧ Tv w' z (s + t) (max d k)) ∧ Below w.heap.size w w' := by
  have hl := (h.lt.mono (Nat.le_max_left d k)).add (h'.lt.mono (Nat.le_max_right d k))
  obtain ⟨A, n, c, l, rfl, h1, h2, h3, rfl⟩ := h
  obtain ⟨A', n', c', l', rfl, h1', h2', h3', rfl⟩ := h'
  exact (add_poly A A' n c n' c' l l' w h1.1 h1'.1 (by omega) (by omega) h2 h2' h1.2.1 h1'.2.1).mono fun e w' ⟨g, b⟩ => ⟨Tv.mk g.poly hl, b⟩
theorem dm_lt {q r : Pl} (h : Pl.DM s t q r) (ht : Pl.Po t) (h0 : t ≠ 0) (hs : Pl.Lt s d) : Pl.Lt q d ∧ Pl.Lt r d := by
  obtain ⟨hq, hr, e, hd⟩ := h
  obtain ⟨k, hk⟩ := ht.dg h0
  have hr1 := hd k hk
  by_cases q0 : q = 0
  · subst q0
    rw [Pl.zero_mul, Pl.zero_add] at e
    exact ⟨Pl.Lt.zero d, e ▸ hs⟩
  · obtain ⟨m, hm⟩ := hq.dg q0
    have h1 := hm.mul hk
    have h2 : s (m + k) ≠ 0 := by
      rw [e, Pl.add_at, hr1 (m + k) (by omega)]
      intro h3
      exact h1.1 (by rw [← h3]; grind)
    have h3 : m + k < d := Nat.lt_of_not_le fun h4 => h2 (hs _ h4)
    exact ⟨hm.2.mono (by omega), hr1.mono (by omega)⟩
theorem divmod_v (h : Qv w o s d) (h' : Qv w o2 t k) (hd : d ≤ 100000) (hk : k ≤ 100000) : Calls Try.prog 51 #[o, o2] w fun e w' =>
    (∃ z z2 q r, e = .returned (.tuple #[z, z2]) ∧ Tv w' z q d ∧ Tv w' z2 r d ∧ (t = 0 → q = 0 ∧ r = 0) ∧ (t ≠ 0 → Pl.DM s t q r)) ∧ Below w.heap.size w w' := by
  have hl := h.lt
  have hp := h'.po
  obtain ⟨A, n, c, l, rfl, h1, h2, h3, rfl⟩ := h
  obtain ⟨A', n', c', l', rfl, h1', h2', h3', rfl⟩ := h'
  refine (divmod_poly A A' n c n' c' l l' w h1.1 h1'.1 (by omega) (by omega) h2 h2' h1.2.1 h1'.2.1).mono ?_
  rintro e w' ⟨⟨A1, n1, c1, l1, A2, n2, c2, l2, rfl, p1, p2, t1, t2, z0, z1, _⟩, hb⟩
  have hb2 : l1.length ≤ d ∧ l2.length ≤ d := by
    by_cases h0 : Pl.co l' = 0
    · rw [(z0 h0).1, (z0 h0).2]; exact ⟨Nat.zero_le _, Nat.zero_le _⟩
    · have h5 := dm_lt (z1 h0) hp h0 hl
      exact ⟨t1.len h5.1, t2.len h5.2⟩
  refine ⟨⟨_, _, Pl.co l1, Pl.co l2, rfl, ⟨A1, n1, c1, l1, rfl, p1, ⟨t1, rfl⟩, by have := p1.1; omega⟩, ⟨A2, n2, c2, l2, rfl, p2, ⟨t2, rfl⟩, by have := p2.1; omega⟩, fun h0 => ?_, z1⟩, hb⟩
  rw [(z0 h0).1, (z0 h0).2, Pl.co_nil]
  exact ⟨rfl, rfl⟩
theorem Pl.Gc.zeros {g : Pl} (h : Pl.Gc 0 0 g) : g = 0 := ((h.2.1 0 Pl.Po.zero).2 ⟨Pl.Dv.zero 0, Pl.Dv.zero 0⟩).zero_left
theorem Pl.Dv.lt {a g : Pl} (hg : Pl.Po g) (h : Pl.Dv g a) (h0 : a ≠ 0) (hl : Pl.Lt a d) : Pl.Lt g d := by
  by_cases g0 : g = 0
  · rw [g0]; exact Pl.Lt.zero d
  · obtain ⟨m, hm⟩ := hg.dg g0
    obtain ⟨n, hnd, hn⟩ := Pl.dg_of d a hl h0
    exact hm.2.mono (by have := h.dg hm hn; omega)
theorem gcd_lt {g : Pl} (h : Pl.Gc s t g) (hs : Pl.Lt s d) (ht : Pl.Lt t k) : Pl.Lt g (max d k) := by
  by_cases h0 : s = 0
  · by_cases h1 : t = 0
    · subst h0 h1; rw [h.zeros]; exact Pl.Lt.zero _
    · exact (h.right.lt h.1 h1 ht).mono (Nat.le_max_right d k)
  · exact (h.left.lt h.1 h0 hs).mono (Nat.le_max_left d k)
theorem gcd_v (h : Qv w o s d) (h' : Qv w o2 t k) (hd : d ≤ 100000) (hk : k ≤ 100000) : Calls Try.prog 50 #[o, o2] w fun e w' => (∃ z g, e = .returned z ∧ Tv w' z g (max d k) ∧ Pl.Gc s t g) ∧ Below w.heap.size w w' := by
  have hl := h.lt
  have hl' := h'.lt
  obtain ⟨A, n, c, l, rfl, h1, h2, h3, rfl⟩ := h
  obtain ⟨A', n', c', l', rfl, h1', h2', h3', rfl⟩ := h'
  refine (gcd_poly A A' n c n' c' l l' w h1.1 h1'.1 (by omega) (by omega) h2 h2' h1.2.1 h1'.2.1).mono ?_
  rintro e w' ⟨⟨g, hp, hg⟩, hb⟩
  obtain ⟨z, rfl, hz⟩ := Tv.mk hp (gcd_lt hg hl hl')
  exact ⟨⟨z, g, rfl, hz, hg⟩, hb⟩
end

/-- A list of numbers of 64 bits that came in. -/
def In (w : World) (A : Option Addr) (n c : Nat) (l : List Nat) : Prop := n = l.length ∧ n ≤ c ∧ (∀ x ∈ l, x < 18446744073709551616) ∧ Rd w.heap.size w A (u64s l) ∧ (A = none → c = 0)
theorem In.below {w w' : World} {A : Option Addr} {n c : Nat} {l : List Nat} (h : In w A n c l) (hb : Below w.heap.size w w') : In w' A n c l := ⟨h.1, h.2.1, h.2.2.1, (h.2.2.2.1.below hb).more hb.size, h.2.2.2.2⟩
end Go.Proofs.Ytcbcmnbfflaicaa

/-
  The reference's division of polynomials, its Gcd, its products of x less each root, and its interpolation (Lagrange's).
-/
namespace Go.Proofs.Ytcbcmnbfflaicaa
open Go.RowKit

/-- A number of what is left of one step. -/
def nx (l b : List Nat) (k c i : Nat) : Nat := if k ≤ i then Fld.sub (l[i]?.getD 0) (Fld.mul c (b[i - k]?.getD 0)) else l[i]?.getD 0
namespace Pl
theorem z3 (x : Fld.F) : 0 - x * 0 = 0 := by rw [Fin.mul_zero]; exact Fld.sub_zero 0
theorem nx_co {l b : List Nat} {n dg k c j : Nat} (hl : l.length = n) (hb : b.length = dg + 1) (hn : n = k + dg + 1) (hj : n = j + 1) (hc : Fld.to c * co b dg = co l j) :
    co (tab (nx l b k c) j) = co l - C (Fld.to c) * shn k (co b) := by
  refine co_tab_all (fun i hi => ?_) fun i hi => ?_
  · rw [sub_at, C_mul_at, shn_at]
    rcases Nat.lt_or_ge i n with h1 | h1
    · obtain rfl : i = j := by omega
      rw [if_pos (by omega), show i - k = dg by omega, hc]
      exact Fin.sub_self
    · rw [Lt.co l i (by omega)]
      by_cases h2 : k ≤ i
      · rw [if_pos h2, Lt.co b (i - k) (by omega)]; exact z3 _
      · omega
  · unfold nx
    rw [sub_at, C_mul_at, shn_at]
    by_cases h2 : k ≤ i
    · rw [if_pos h2, if_pos h2, Fld.to_subF, Fld.to_mulF]; rfl
    · rw [if_neg h2, if_neg h2, co_at]; grind
theorem quo_step {A0 B S Q : Pl} {k : Nat} {c : Fld.F} (h : A0 = Q * B + S) : A0 = (Q + C c * shn k (C 1)) * B + (S - C c * shn k B) := by
  rw [add_mul, mul_assoc, shn_mul, one_mul, h]
  exact ext fun n => by simp only [add_at, sub_at]; grind
theorem co_put {L : List Nat} {k c : Nat} (hk : k < L.length) (h0 : co L k = 0) : co (L.set k c) = co L + C (Fld.to c) * shn k (C 1) := ext fun n => by
  rw [co_set hk, add_at, C_mul_at, shn_at]
  by_cases h : n = k
  · subst h
    rw [if_pos rfl, if_pos (Nat.le_refl _), Nat.sub_self, h0, C_0]; grind
  · rw [if_neg h]
    by_cases h2 : k ≤ n
    · rw [if_pos h2]
      obtain ⟨j, hj⟩ : ∃ j, n - k = j + 1 := ⟨n - k - 1, by omega⟩
      rw [hj, C_s]; grind
    · rw [if_neg h2]; grind
end Pl

theorem Rq.below {g : Nat} {w w' : World} {A : Option Addr} {vs : List Value} (h : Rq g w A vs) (hb : Below w.heap.size w w') : Rq g w' A vs := h.grown (below_grown hb _)
theorem Rq.num {g : Nat} {w : World} {A : Option Addr} {l : List Nat} (h : Rq g w A (u64s l)) {k : Nat} (hk : k < l.length) : ∃ b off, A = some ⟨b, off, none⟩ ∧ b ≠ g ∧ b < w.heap.size ∧ w.cell? ⟨b, off + k, none⟩ = some (.int .u64 ((l[k]?.getD 0 : Nat) : Int)) := by
  obtain ⟨b, off, e, hne, hb, hc⟩ := h (by rw [u64s_len]; omega)
  exact ⟨b, off, e, hne, hb, hc k _ (u64s_at hk)⟩
theorem Rq.rd {g : Nat} {w : World} {A : Option Addr} {vs : List Value} (h : Rq g w A vs) : Rd w.heap.size w A vs := fun hp => by
  obtain ⟨b, off, e, _, h1, h2⟩ := h hp
  exact ⟨b, off, e, h1, h2⟩

/-- What the reference's DivMod keeps. -/
def RdmAt (w wr : World) (gq N m : Nat) (Ab : Option Addr) (bl : List Nat) (A0 B : Pl) (n0 n : Nat) (lf : Value) : Prop :=
  ∃ A c l S Q Lq, lf = .slice A n c ∧ n = l.length ∧ n ≤ c ∧ (A = none → c = 0) ∧ n ≤ n0 ∧ Pl.Is l S ∧ Rq gq wr A (u64s l) ∧ Ar wr gq Lq ∧ Lq.length = N ∧ Pl.Sm Lq ∧ Pl.co Lq = Q ∧ A0 = Q * B + S ∧ (∀ i, i + m ≤ n → Pl.co Lq i = 0) ∧
    Rq gq wr Ab (u64s bl) ∧ w.heap.size ≤ gq ∧ Below w.heap.size w wr

/-- What the reference's DivMod tells. -/
def RdT (s t : Pl) (d : Nat) (e : Ending) (w' : World) : Prop := (t = 0 → e = .returned (.tuple #[.slice none 0 0, .slice none 0 0])) ∧ (t ≠ 0 → ∃ z z2 q r, e = .returned (.tuple #[z, z2]) ∧ Tv w' z q d ∧ Tv w' z2 r d ∧ Pl.DM s t q r)

end Go.Proofs.Ytcbcmnbfflaicaa

namespace Go.Proofs.Ytcbcmnbfflaicaa
open Go.RowKit

/-- What the reference's Gcd keeps. -/
def RgAt (w wr : World) (A B : Pl) (d ny : Nat) (a b : Value) : Prop := ∃ X Y, Tv wr a X d ∧ Tv wr b Y d ∧ (∃ P c, b = .slice P ny c) ∧ (∀ D, Pl.Po D → ((Pl.Dv D X ∧ Pl.Dv D Y) ↔ (Pl.Dv D A ∧ Pl.Dv D B))) ∧ Below w.heap.size w wr
theorem Tv.wide {w : World} {o : Value} {s : Pl} {d k : Nat} (h : Tv w o s d) (hk : d ≤ k) : Tv w o s k := by
  obtain ⟨A, n, c, l, e, h1, h2, h3⟩ := h
  exact ⟨A, n, c, l, e, h1, h2, by omega⟩

/-- The product of x less each root, from the first on. -/
def Pl.prodL (l : List Nat) (k : Nat) : Pl := match k with
  | 0 => Pl.C 1
  | k + 1 => Pl.prodL l k * Pl.lin (Pl.co l k)
theorem Pl.prodR_take (l : List Nat) : ∀ k, k ≤ l.length → Pl.prodR (l.take k) = Pl.prodL l k
  | 0, _ => rfl
  | k + 1, h => by
    rw [take_next (by omega), Pl.prodL, ← Pl.prodR_take l k (by omega)]
    have hs : ∀ (a : List Nat) (x : Nat), Pl.prodR (a ++ [x]) = Pl.prodR a * Pl.lin (Fld.to x) := by
      intro a x
      induction a with
      | nil => show Pl.lin (Fld.to x) * Pl.C 1 = Pl.C 1 * Pl.lin (Fld.to x); rw [Pl.mul_comm]
      | cons y a ih => show Pl.lin (Fld.to y) * Pl.prodR (a ++ [x]) = Pl.lin (Fld.to y) * Pl.prodR a * Pl.lin (Fld.to x); rw [ih, Pl.mul_assoc]
    rw [hs]
    rfl
theorem Pl.Dg.prodR : ∀ l : List Nat, Pl.Dg (Pl.prodR l) l.length ∧ Pl.prodR l l.length = 1
  | [] => ⟨⟨Fld.one_ne, Pl.Lt.C 1⟩, rfl⟩
  | r :: l => by
    have h := Pl.Dg.prodR l
    have hd := (Pl.Dg.lin (Fld.to r)).mul h.1
    rw [Nat.add_comm] at hd
    refine ⟨hd, ?_⟩
    have ht := Pl.top_mul (Pl.Dg.lin (Fld.to r)).2 h.1.2
    rw [h.2, Nat.add_comm] at ht
    show (Pl.lin (Fld.to r) * Pl.prodR l) (l.length + 1) = 1
    rw [ht]
    show (Pl.X - Pl.C (Fld.to r)) 1 * 1 = 1
    rw [Pl.sub_at, Pl.C_s]
    show (1 - 0) * 1 = (1 : Fld.F)
    decide +kernel

end Go.Proofs.Ytcbcmnbfflaicaa

namespace Go.Proofs.Ytcbcmnbfflaicaa
open Go.RowKit

namespace Pl
open Fld (F iv)
/-- What is known behind i rounds. -/
structure RfI (xs ys : List Nat) (n i : Nat) (S : Pl) : Prop where
  lt : Lt S n
  vs : ∀ j, j < n → val S (co xs j) = if j < i then co ys j else 0
  ds : ∀ a, a < i → ∀ b, b < n → b ≠ a → co xs a ≠ co xs b
/-- What is known of one part behind k rounds. -/
structure RfK (xs ys : List Nat) (i k : Nat) (T : Pl) : Prop where
  lt : Lt T (k + 1 - (if i < k then 1 else 0))
  own : val T (co xs i) = co ys i
  vs : ∀ j, j < k → j ≠ i → val T (co xs j) = 0
  ds : ∀ b, b < k → b ≠ i → co xs i ≠ co xs b
theorem RfI.start (xs ys : List Nat) (n : Nat) : RfI xs ys n 0 0 := ⟨Lt.zero n, fun j _ => by rw [val_zero, if_neg (Nat.not_lt_zero j)], fun a h => absurd h (Nat.not_lt_zero a)⟩
theorem RfK.start (xs ys : List Nat) (i : Nat) : RfK xs ys i 0 (C (co ys i)) := ⟨by rw [if_neg (Nat.not_lt_zero i)]; exact Lt.C _, val_C _ _, fun j h => absurd h (Nat.not_lt_zero j), fun j h => absurd h (Nat.not_lt_zero j)⟩
theorem RfK.skip {xs ys : List Nat} {i : Nat} {T : Pl} (h : RfK xs ys i i T) : RfK xs ys i (i + 1) T :=
  ⟨by have h1 := h.lt; rw [if_neg (Nat.lt_irrefl i)] at h1; rw [if_pos (Nat.lt_succ_self i)]; exact h1, h.own, fun j hj hne => h.vs j (by omega) hne, fun j hj hne => h.ds j (by omega) hne⟩
theorem RfK.step {xs ys : List Nat} {i k : Nat} {T : Pl} (h : RfK xs ys i k T) (hk : k ≠ i) (hd : co xs i - co xs k ≠ 0) : RfK xs ys i (k + 1) (C (iv (co xs i - co xs k)) * (T * lin (co xs k))) := by
  have pT : Po T := ⟨_, h.lt⟩
  have hv : ∀ x, val (C (iv (co xs i - co xs k)) * (T * lin (co xs k))) x = iv (co xs i - co xs k) * (val T x * (x - co xs k)) := fun x => by
    rw [val_smul _ (pT.mul (Po.lin _)), val_mul pT (Po.lin _), val_lin]
  refine ⟨Lt.smul _ ?_, ?_, fun j hj hne => ?_, fun b hb hne => ?_⟩
  · rw [mul_comm, lin_mul]
    have h1 := h.lt.sh.sub ((Lt.smul (co xs k) h.lt).mono (Nat.le_succ _))
    refine h1.mono ?_
    split <;> split <;> omega
  · rw [hv, h.own]
    have := Fld.mul_iv hd
    grind
  · rw [hv]
    rcases Nat.lt_or_ge j k with h1 | h1
    · rw [h.vs j h1 hne]; grind
    · obtain rfl : j = k := by omega
      grind
  · rcases Nat.lt_or_ge b k with h1 | h1
    · exact h.ds b h1 hne
    · obtain rfl : b = k := by omega
      intro e
      exact hd (by rw [e]; exact Fin.sub_self)
theorem RfI.step {xs ys : List Nat} {n i : Nat} {S T : Pl} (h : RfI xs ys n i S) (hk : RfK xs ys i n T) (hi : i < n) : RfI xs ys n (i + 1) (S + T) := by
  have hl := hk.lt
  rw [if_pos hi] at hl
  refine ⟨h.lt.add (hl.mono (by omega)), fun j hj => ?_, fun a ha b hb hne => ?_⟩
  · rw [val_add ⟨_, h.lt⟩ ⟨_, hl⟩, h.vs j hj]
    by_cases h1 : j = i
    · subst h1
      rw [if_neg (Nat.lt_irrefl j), if_pos (Nat.lt_succ_self j), hk.own]; grind
    · rw [hk.vs j hj h1]
      by_cases h2 : j < i
      · rw [if_pos h2, if_pos (by omega)]; grind
      · rw [if_neg h2, if_neg (by omega)]; exact Fin.add_zero 0
  · rcases Nat.lt_or_ge a i with h1 | h1
    · exact h.ds a h1 b hb hne
    · obtain rfl : a = i := by omega
      exact hk.ds b hb hne
theorem RfI.fi {xs ys : List Nat} {n : Nat} {S : Pl} (h : RfI xs ys n n S) : Fi xs ys n S ∧ Dis xs n :=
  ⟨⟨h.lt, fun j hj => by rw [h.vs j hj, if_pos hj]⟩, fun i j hij hj => h.ds i (by omega) j hj (by omega)⟩
end Pl

/-- What the reference's From tells. -/
def RfT (n : Nat) (xs ys : List Nat) (e : Ending) (w' : World) : Prop := (Pl.Dis xs n → ∃ z s, e = .returned z ∧ Tv w' z s n ∧ Pl.Fi xs ys n s) ∧ (¬ Pl.Dis xs n → e = .returned (.slice none 0 0))
/-- What it keeps. -/
def RoAt (w wr : World) (xs ys : List Nat) (n i : Nat) (o : Value) : Prop := ∃ S, Tv wr o S n ∧ Pl.RfI xs ys n i S ∧ Below w.heap.size w wr
def RpAt (w wr : World) (xs ys : List Nat) (n i k : Nat) (p : Value) : Prop := ∃ T, Qv wr p T (n + 1) ∧ Pl.RfK xs ys i k T ∧ Below w.heap.size w wr

end Go.Proofs.Ytcbcmnbfflaicaa

/-
  What the statements on division want: exact divisions, the greatest common divisor's last coefficient, what is left.
-/
namespace Go.Proofs.Ytcbcmnbfflaicaa
open Go.RowKit

/-- A cell that holds a number. -/
def Lc (w : World) (b p v : Nat) : Prop := b < w.heap.size ∧ w.cell? ⟨b, p, none⟩ = some (.int .u64 (v : Int))
theorem Lc.below {w w' : World} {b p v : Nat} (h : Lc w b p v) (hb : Below w.heap.size w w') : Lc w' b p v := ⟨Nat.lt_of_lt_of_le h.1 hb.size, (hb.cell (p := ⟨b, p, none⟩) h.1).trans h.2⟩
theorem Lc.new {w : World} {b p v : Nat} (h : Lc w b p v) (x : Obj) : Lc (w.alloc x) b p v := h.below ((Below.refl _ w).alloc (Nat.le_refl _) _)

section
variable {w : World} {o o2 : Value} {s t g : Pl} {d k : Nat}
theorem Tv.last (h : Tv w o g d) (h0 : g ≠ 0) (hm : ∀ n, Pl.Dg g n → g n = 1) : ∃ b off j c, o = .slice (some ⟨b, off, none⟩) (j + 1 : Nat) c ∧ Lc w b (off + j) 1 := by
  obtain ⟨A, n, c, l, rfl, hp, hi, hn⟩ := h
  have hl : l.length ≠ 0 := fun e => h0 (by rw [← hi.2]; exact hi.1.len_zero.1 e)
  obtain ⟨j, hj⟩ : ∃ j, l.length = j + 1 := ⟨l.length - 1, by omega⟩
  have hdg := hi.1.dg hj
  rw [hi.2] at hdg
  have h1 := hm j hdg
  rw [← hi.2, Pl.co_at] at h1
  have h2 : l[j]?.getD 0 = 1 := Pl.to_inj' (hi.1.1.get j) (by omega) h1
  obtain ⟨b, off, e, hb, hc⟩ := hp.2.1.num (k := j) (by omega)
  rw [h2] at hc
  have hnj : n = j + 1 := hp.1.trans hj
  subst hnj e
  exact ⟨b, off, j, c, rfl, hb, hc⟩
theorem gcd0_v (h : Qv w o 0 d) (h' : Qv w o2 0 k) (hd : d ≤ 100000) (hk : k ≤ 100000) : Calls Try.prog 50 #[o, o2] w fun e w' => (∃ A c, e = .returned (.slice A (0 : Nat) c)) ∧ Below w.heap.size w w' := by
  refine (gcd_v h h' hd hk).mono ?_
  rintro e w' ⟨⟨z, g, rfl, hz, hg⟩, hb⟩
  have g0 := hg.zeros
  subst g0
  obtain ⟨A, n, c, rfl, _, hn, _⟩ := hz.open_
  obtain rfl : n = 0 := hn.2 rfl
  exact ⟨⟨A, c, rfl⟩, hb⟩
theorem gcd1_v (h : Qv w o s d) (h' : Qv w o2 t k) (hd : d ≤ 100000) (hk : k ≤ 100000) (h0 : s ≠ 0 ∨ t ≠ 0) : Calls Try.prog 50 #[o, o2] w fun e w' =>
    (∃ b off n j c g, e = .returned (.slice (some ⟨b, off, none⟩) n c) ∧ n = j + 1 ∧ n ≤ max d k ∧ Tv w' (.slice (some ⟨b, off, none⟩) n c) g (max d k) ∧ Lc w' b (off + j) 1 ∧ Pl.Gc s t g ∧ g ≠ 0) ∧ Below w.heap.size w w' := by
  refine (gcd_v h h' hd hk).mono ?_
  rintro e w' ⟨⟨z, g, rfl, hz, hg⟩, hb⟩
  have g0 : g ≠ 0 := by
    rintro rfl
    rcases h0 with h0 | h0
    · exact h0 hg.zero.1
    · exact h0 hg.zero.2
  obtain ⟨b, off, j, c, rfl, hl⟩ := hz.last g0 hg.2.2
  obtain ⟨_, _, _, e2, hn, _⟩ := hz.open_
  injection e2 with _ e2 _
  exact ⟨⟨b, off, j + 1, j, c, g, rfl, rfl, by omega, hz, hl, hg, g0⟩, hb⟩
/-- An exact division. -/
theorem divs_v (h : Qv w o s d) (h' : Qv w o2 t k) (hd : d ≤ 100000) (hk : k ≤ 100000) (h0 : t ≠ 0) (hv : Pl.Dv t s) : Calls Try.prog 51 #[o, o2] w fun e w' =>
    (∃ z A c q, e = .returned (.tuple #[z, .slice A (0 : Nat) c]) ∧ Tv w' z q d ∧ s = q * t) ∧ Below w.heap.size w w' := by
  have hpt := h'.po
  refine (divmod_v h h' hd hk).mono ?_
  rintro e w' ⟨⟨z, z2, q, r, rfl, hz, hr, _, hdm⟩, hb⟩
  have hdm := hdm h0
  obtain ⟨q', hq', e'⟩ := hv
  have hu := hdm.uniq hpt h0 ⟨hq', Pl.Po.zero, by rw [Pl.add_zero, Pl.mul_comm]; exact e', fun n _ => Pl.Lt.zero n⟩
  obtain ⟨A, n, c, rfl, _, hn, _⟩ := hr.open_
  obtain rfl : n = 0 := hn.2 hu.2
  exact ⟨⟨z, A, c, q, rfl, hz, by rw [hu.1, Pl.mul_comm]; exact e'⟩, hb⟩
/-- A division by what is not 0: what is left is shorter. -/
theorem divm_v {A2 : Option Addr} {n2 c2 : Nat} (h : Qv w o s d) (h' : Tv w (.slice A2 n2 c2) t k) (hd : d ≤ 100000) (hk : k ≤ 100000) (h0 : t ≠ 0) : Calls Try.prog 51 #[o, .slice A2 n2 c2] w fun e w' =>
    (∃ z A n c q r, e = .returned (.tuple #[z, .slice A n c]) ∧ Tv w' z q d ∧ Tv w' (.slice A n c) r d ∧ n < n2 ∧ Pl.DM s t q r) ∧ Below w.heap.size w w' := by
  have hpt := h'.q.po
  obtain ⟨_, _, _, e2, _, _, hdg⟩ := h'.open_
  injection e2 with _ e2 _
  subst e2
  refine (divmod_v h h'.q hd hk).mono ?_
  rintro e w' ⟨⟨z, z2, q, r, rfl, hz, hr, _, hdm⟩, hb⟩
  have hdm := hdm h0
  obtain ⟨m, hm⟩ := hpt.dg h0
  have hn2 := hdg m hm
  obtain ⟨A, n, c, rfl, hnm, _, _⟩ := (hr.less (hdm.2.2.2 m hm)).open_
  exact ⟨⟨z, A, n, c, q, r, rfl, hz, hr, by omega, hdm⟩, hb⟩
end
namespace Pl
theorem Dv.mul_mul {a b c : Pl} (h : Dv a b) : Dv (a * c) (b * c) := by
  obtain ⟨q, hq, e⟩ := h
  exact ⟨q, hq, by rw [e, mul_assoc, mul_assoc, mul_comm q c]⟩
/-- What is left of two, divided by their greatest common divisor, has nothing in common. -/
theorem Gc.unit {p q g x y h : Pl} (hg : Gc p q g) (g0 : g ≠ 0) (hx : p = x * g) (hy : q = y * g) (hh : Gc x y h) : Dg h 0 := by
  have h1 : Dv (h * g) g := (hg.2.1 _ (hh.1.mul hg.1)).2 ⟨hx ▸ hh.left.mul_mul, hy ▸ hh.right.mul_mul⟩
  have h0 : h ≠ 0 := by
    rintro rfl
    rw [zero_mul] at h1
    exact g0 h1.zero_left
  obtain ⟨m, hm⟩ := hh.1.dg h0
  obtain ⟨n, hn⟩ := hg.1.dg g0
  have := h1.dg (hm.mul hn) hn
  obtain rfl : m = 0 := by omega
  exact hm
end Pl
theorem gcdu_v {w : World} {o o2 : Value} {p q g x y : Pl} {d k : Nat} (h : Qv w o x d) (h' : Qv w o2 y k) (hd : d ≤ 100000) (hk : k ≤ 100000) (hg : Pl.Gc p q g) (g0 : g ≠ 0) (hx : p = x * g) (hy : q = y * g) :
    Calls Try.prog 50 #[o, o2] w fun e w' => (∃ A c, e = .returned (.slice A (1 : Nat) c)) ∧ Below w.heap.size w w' := by
  refine (gcd_v h h' hd hk).mono ?_
  rintro e w' ⟨⟨z, u, rfl, hz, hu⟩, hb⟩
  obtain ⟨A, n, c, rfl, _, _, hdg⟩ := hz.open_
  obtain rfl : n = 1 := hdg 0 (hg.unit g0 hx hy hu)
  exact ⟨⟨A, c, rfl⟩, hb⟩
end Go.Proofs.Ytcbcmnbfflaicaa

/-
  The references' helpers: numbers, sorted, each once; small numbers; a secret; whether a number is one of some; a polynomial without roots.
-/
namespace Go.Proofs.Ytcbcmnbfflaicaa
open Go.RowKit

/-! ### integers that came in -/
def ints (l : List Int) : List Value := l.map (Value.int .i64)
theorem ints_len (l : List Int) : (ints l).length = l.length := by simp [ints]
theorem row_i64 (w : World) (a : Option Addr) (len cap : Nat) (zs : List Int)
    (h : (a = none ∧ len = 0 ∧ cap = 0 ∧ zs = []) ∨
      ∃ x, a = some x ∧ len ≤ cap ∧ cap ≤ maxLen ∧ zs.length = cap ∧ (∀ i, i < zs.length → w.cell? (x.add i) = some (.int .i64 (zs.getD i 0))) ∧ ∀ n ∈ zs, (Lit.int .i64 n).wf = true) :
    ∃ l : List Int, len = l.length ∧ len ≤ 9223372036854775807 ∧ (∀ z ∈ l, -9223372036854775808 ≤ z ∧ z ≤ 9223372036854775807) ∧ Rd w.heap.size w a (ints l) := by
  have hlen : len ≤ 9223372036854775807 := by
    rcases h with ⟨_, rfl, _, _⟩ | ⟨x, _, hl, hm, _⟩
    · omega
    · unfold maxLen at hm; omega
  obtain ⟨h1, h2, _, h3, h4, h5⟩ := row_any .i64 w a len cap zs h
  refine ⟨zs.take len, h1.symm, hlen, fun z hz => ?_, fun hp => ?_⟩
  · have := bounds_i64 (h4 z hz)
    omega
  · rw [ints_len, h1] at hp
    obtain ⟨b, off, e, hb, hc⟩ := h5 hp
    refine ⟨b, off, e, hb, fun i u hu => ?_⟩
    unfold ints at hu
    rw [List.getElem?_map] at hu
    obtain ⟨n, hn, rfl⟩ := Option.map_eq_some_iff.1 hu
    exact hc i n hn
/-- A list of integers that came in. -/
def Iz (w : World) (A : Option Addr) (n : Nat) (l : List Int) : Prop := n = l.length ∧ n ≤ 9223372036854775807 ∧ (∀ z ∈ l, -9223372036854775808 ≤ z ∧ z ≤ 9223372036854775807) ∧ Rd w.heap.size w A (ints l)
theorem Iz.below {w w' : World} {A : Option Addr} {n : Nat} {l : List Int} (h : Iz w A n l) (hb : Below w.heap.size w w') : Iz w' A n l := ⟨h.1, h.2.1, h.2.2.1, (h.2.2.2.below hb).more hb.size⟩

/-! ### small numbers -/
/-! ### a secret; a number among some -/
/-! ### a list behind a list -/
theorem wpList_app64 {ops : Array Oper} {rest : List Oper} {o : Oper} {a : Act} {Q : Exit → Act → World → Prop} {w : World} (hgd : o.guard = none) (s x : Operand)
    (ho : o.op = .call { callee := .builtin .append, args := #[s, x], argTypes := #[25, 25] }) (B : Nat) (L l2 : List Nat) (u : Value) (A2 : Option Addr) (q c2 : Nat) (hg : Gl B w u L) (hs : a.eval s = u) (hx : a.eval x = .slice A2 q c2)
    (hq : q = l2.length) (hR : Rd w.heap.size w A2 (u64s l2)) (hnil : A2 = none → c2 = 0 ∧ q = 0) (hk : L.length + q ≤ 1000000000) (hB : B ≤ w.heap.size)
    (h : ∀ z w1, Gl B w1 z (L ++ l2) → Below B w w1 → wpList Try.prog ops Q rest (a.put o.dst z) w1) : wpList Try.prog ops Q (o :: rest) a w := by
  obtain ⟨i0, hi, hz0, hz1, hz2⟩ := info_parts info_u64
  obtain ⟨A, c, rfl, hrow⟩ := hg
  rcases A2 with _ | ad
  · obtain ⟨rfl, rfl⟩ := hnil rfl
    obtain rfl : l2 = [] := List.eq_nil_of_length_eq_zero hq.symm
    refine wpList_append_own_none hgd s x 25 ho B 22 i0 1 Try.underlying25 hi _ _ _ hs hrow hx ?_
    exact h _ w ⟨A, c, by rw [List.append_nil], by rw [List.append_nil]; exact hrow⟩ (Below.refl _ _)
  · refine wpList_append_own w hgd s x 25 ho B 22 i0 (.int .u64 0) 1 8 Try.underlying25 hi hz0 hz1 hz2 rfl (by decide) _ _ _ hs hrow ad q c2 (u64s l2) hx (by rw [u64s_len, hq, Nat.mul_one]) ?_ ?_ (by unfold maxLen; omega) (by omega) hB ?_
    · rcases Nat.eq_zero_or_pos q with h0 | h0
      · obtain rfl : l2 = [] := List.eq_nil_of_length_eq_zero (by omega)
        intro j v hv
        simp [u64s] at hv
      · obtain ⟨b, off, e, _, hc⟩ := hR (by rw [u64s_len]; omega)
        injection e with e
        subst e
        intro j v hv
        rw [Addr.add_lit]
        exact hc j v hv
    · intro v hv
      obtain ⟨y, _, rfl⟩ := List.mem_map.1 hv
      rfl
    · intro v' w1 hown hgrow _
      have hown2 : w1.ownsRow B 22 1 v' (L.length + q) (u64s (L ++ l2)) := by
        have e : u64s (L ++ l2) = u64s L ++ u64s l2 := by unfold u64s; rw [List.map_append]
        rw [e]; exact hown
      obtain ⟨A', c', rfl⟩ : ∃ A' c', v' = .slice A' (L.length + q) c' := by
        rcases hown.2 with ⟨rfl, h0⟩ | ⟨g, cp, _, rfl, _⟩
        · exact ⟨none, 0, by rw [h0]⟩
        · exact ⟨_, cp, rfl⟩
      refine h _ w1 ⟨A', c', by rw [List.length_append, hq], by rw [List.length_append, ← hq]; exact hown2⟩ ?_
      exact (Below.refl B w).grown hgrow hB (fun j e => (hrow.lt j e).1)

/-- What s[k:] is. -/
theorem slice_tail (A : Option Addr) (n c k q : Nat) (hk : k ≤ n) (hq : q = n - k) (hnc : n ≤ c) (hnil : A = none → c = 0) : ∃ A' c', (∀ W, (Instr.slice 25 (.slice A n c) (some (.int .i64 (k : Int))) none none).run Try.prog W = .ok (.slice A' q c') W) ∧ (A' = none → c' = 0 ∧ q = 0) ∧
    ∀ (B : Nat) (w : World) (l : List Nat), n = l.length → Rd B w A (u64s l) → Rd B w A' (u64s (l.drop k)) := by
  rcases A with _ | ad
  · have hc := hnil rfl
    subst hc
    obtain rfl : n = 0 := by omega
    obtain rfl : k = 0 := by omega
    obtain rfl : q = 0 := by omega
    refine ⟨none, 0, fun W => ?_, fun _ => ⟨rfl, rfl⟩, fun B w l hl h => ?_⟩
    · have hz : (sizeOf (Try.prog.elem 25)).run Try.prog W = .ok 1 W := by kernel_rfl
      have h := run_slice_l (P := Try.prog) W 25 none 0 0 (by kernel_rfl) .i64 ((0 : Nat) : Int) (by omega) (by omega)
      rw [h, hz]
      simp [Result.andThen, sliced]
    · rw [List.drop_zero]; exact h
  · refine ⟨if c = k then some ad else some (ad.add (k * 1)), c - k, fun W => ?_, (fun e => by split at e <;> cases e), fun B w l hl h => ?_⟩
    · have hz : (sizeOf (Try.prog.elem 25)).run Try.prog W = .ok 1 W := by kernel_rfl
      have h := run_slice_l (P := Try.prog) W 25 (some ad) n c (by kernel_rfl) .i64 (k : Int) (by omega) (by omega)
      rw [h, hz, hq]
      simp only [Result.andThen, sliced, Int.toNat_natCast, Option.map_some]
    · intro hp
      rw [u64s_len, List.length_drop] at hp
      obtain ⟨b, off, e, hb, hc⟩ := h (by rw [u64s_len]; omega)
      injection e with e
      subst e
      refine ⟨b, off + k, ?_, hb, fun i u hu => ?_⟩
      · rw [if_neg (by omega), Nat.mul_one, Addr.add_lit]
      · have h1 : (u64s l)[k + i]? = some u := by
          rw [← hu]
          unfold u64s
          rw [List.map_drop, List.getElem?_drop]
        have h2 := hc (k + i) u h1
        rwa [← Nat.add_assoc] at h2

theorem Gl.base {B B' : Nat} {w : World} {o : Value} {L : List Nat} (h : Gl B w o L) (hB : B' ≤ B) : Gl B' w o L := by
  obtain ⟨A, c, e, h1, h2⟩ := h
  refine ⟨A, c, e, h1, ?_⟩
  rcases h2 with h2 | ⟨g, cap, cur, h3, h4, h5⟩
  · exact .inl h2
  · exact .inr ⟨g, cap, cur, h3, Nat.le_trans hB h4, h5⟩

/-! ### sorted, each once -/
/-- The first i numbers, modulo the prime, rising, each once. -/
def Srtd (l : List Nat) (i : Nat) (L : List Nat) : Prop := L.Pairwise (· < ·) ∧ ∀ x, x ∈ L ↔ ∃ j, j < i ∧ x = Fld.num (l[j]?.getD 0)
theorem mem_getD {L : List Nat} {x : Nat} : x ∈ L ↔ ∃ j, j < L.length ∧ L[j]?.getD 0 = x := by
  constructor
  · intro h
    obtain ⟨j, hj, e⟩ := List.mem_iff_getElem.1 h
    exact ⟨j, hj, by rw [List.getElem?_eq_getElem hj]; exact e⟩
  · rintro ⟨j, hj, e⟩
    rw [List.getElem?_eq_getElem hj] at e
    exact e ▸ List.getElem_mem hj
theorem rise_lt {L : List Nat} (h : L.Pairwise (· < ·)) {i j : Nat} (hij : i < j) (hj : j < L.length) : L[i]?.getD 0 < L[j]?.getD 0 := by
  rw [List.getElem?_eq_getElem (by omega), List.getElem?_eq_getElem hj]
  exact List.pairwise_iff_getElem.1 h i j (by omega) hj hij
theorem Srtd.found {l L : List Nat} {i k : Nat} (h : Srtd l i L) (hk : k < L.length) (e : L[k]?.getD 0 = Fld.num (l[i]?.getD 0)) : Srtd l (i + 1) L :=
  ⟨h.1, fun x => by
    rw [h.2]
    constructor
    · rintro ⟨j, hj, e⟩; exact ⟨j, by omega, e⟩
    · rintro ⟨j, hj, e1⟩
      rcases Nat.lt_or_ge j i with h1 | h1
      · exact ⟨j, h1, e1⟩
      · obtain rfl : j = i := by omega
        exact (h.2 x).1 (mem_getD.2 ⟨k, hk, e.trans e1.symm⟩)⟩
theorem Srtd.put {l L : List Nat} {i k x : Nat} (h : Srtd l i L) (hx : x = Fld.num (l[i]?.getD 0)) (hk : k ≤ L.length) (h1 : ∀ j, j < k → L[j]?.getD 0 < x) (h2 : k < L.length → x < L[k]?.getD 0) : Srtd l (i + 1) (L.take k ++ [x] ++ L.drop k) := by
  refine ⟨?_, fun y => ?_⟩
  · rw [List.append_assoc, List.pairwise_append]
    refine ⟨h.1.sublist (List.take_sublist k L), ?_, ?_⟩
    · rw [List.singleton_append, List.pairwise_cons]
      refine ⟨fun b hb => ?_, h.1.sublist (List.drop_sublist k L)⟩
      obtain ⟨j, hj, e⟩ := mem_getD.1 hb
      rw [List.length_drop] at hj
      rw [List.getElem?_drop] at e
      rcases Nat.eq_zero_or_pos j with h0 | h0
      · subst h0; rw [← e]; exact h2 (by omega)
      · have := h2 (by omega)
        have := rise_lt h.1 (i := k) (j := k + j) (by omega) (by omega)
        omega
    · intro a ha b hb
      obtain ⟨j, hj, e⟩ := mem_getD.1 ha
      rw [List.length_take] at hj
      rw [List.getElem?_take, if_pos (by omega)] at e
      have h3 := h1 j (by omega)
      rcases List.mem_append.1 hb with hb | hb
      · rw [List.mem_singleton.1 hb]; omega
      · obtain ⟨m, hm, e2⟩ := mem_getD.1 hb
        rw [List.length_drop] at hm
        rw [List.getElem?_drop] at e2
        have := rise_lt h.1 (i := j) (j := k + m) (by omega) (by omega)
        omega
  · have e : y ∈ L.take k ++ [x] ++ L.drop k ↔ y = x ∨ y ∈ L := by
      rw [List.mem_append, List.mem_append, List.mem_singleton]
      constructor
      · rintro ((h | h) | h)
        · exact .inr (List.mem_of_mem_take h)
        · exact .inl h
        · exact .inr (List.mem_of_mem_drop h)
      · rintro (h | h)
        · exact .inl (.inr h)
        · rw [← List.take_append_drop k L, List.mem_append] at h
          rcases h with h | h
          · exact .inl (.inl h)
          · exact .inr h
    rw [e, h.2]
    constructor
    · rintro (h | ⟨j, hj, e⟩)
      · exact ⟨i, by omega, h.trans hx⟩
      · exact ⟨j, by omega, e⟩
    · rintro ⟨j, hj, e⟩
      rcases Nat.lt_or_ge j i with h1 | h1
      · exact .inr ⟨j, h1, e⟩
      · obtain rfl : j = i := by omega
        exact .inl (e.trans hx.symm)

end Go.Proofs.Ytcbcmnbfflaicaa

/-
  PolyFroms: the least polynomial with some values, and that of some roots, is the document's.
-/
namespace Go.Proofs.Ytcbcmnbfflaicaa
open Go.RowKit

/-- A slice of up to d numbers of 64 bits. -/
def Nv (w : World) (o : Value) (l : List Nat) (d : Nat) : Prop := ∃ A n c, o = .slice A n c ∧ Pt w A n c l ∧ (∀ y ∈ l, y < 18446744073709551616) ∧ n ≤ d
theorem Nv.below {w w' : World} {o : Value} {l : List Nat} {d : Nat} (h : Nv w o l d) (hb : Below w.heap.size w w') : Nv w' o l d := by
  obtain ⟨A, n, c, e, h1, h2⟩ := h
  exact ⟨A, n, c, e, h1.below hb, h2⟩
theorem Nv.new {w : World} {o : Value} {l : List Nat} {d : Nat} (h : Nv w o l d) (x : Obj) : Nv (w.alloc x) o l d := h.below ((Below.refl _ w).alloc (Nat.le_refl _) _)
theorem Nv.take {w : World} {A : Option Addr} {n c k d : Nat} {l : List Nat} (h : Nv w (.slice A n c) l d) (hk : k ≤ n) : Nv w (.slice A k c) (l.take k) d := by
  obtain ⟨_, _, _, e, h1, h2, h3⟩ := h
  injection e with e1 e2 e3
  subst e1 e2 e3
  exact ⟨A, k, c, rfl, ⟨by rw [List.length_take]; have := h1.1; omega, h1.2.1.take k, by have := h1.2.2.1; omega, h1.2.2.2⟩, fun y hy => h2 y (List.mem_of_mem_take hy), by omega⟩
theorem Nv.len {w : World} {o : Value} {l : List Nat} {d : Nat} (h : Nv w o l d) : l.length ≤ d := by
  obtain ⟨A, n, c, e, h1, h2, h3⟩ := h
  have := h1.1
  omega
/-- The polynomial of the least degree with the values; 0, if there is none. -/
noncomputable def fxs (xs ys : List Nat) : Pl := open Classical in if h : xs.length = ys.length ∧ Pl.Dis xs xs.length ∧ ∃ s, Pl.Fi xs ys xs.length s then Classical.choose h.2.2 else 0
theorem fxs_eq {xs ys : List Nat} {s : Pl} (h : xs.length = ys.length) (hd : Pl.Dis xs xs.length) (hs : Pl.Fi xs ys xs.length s) : fxs xs ys = s := by
  have h3 : xs.length = ys.length ∧ Pl.Dis xs xs.length ∧ ∃ s, Pl.Fi xs ys xs.length s := ⟨h, hd, s, hs⟩
  unfold fxs
  rw [dif_pos h3]
  exact (Classical.choose_spec h3.2.2).uniq hd hs
theorem fxs_zero {xs ys : List Nat} (h : ¬ (xs.length = ys.length ∧ Pl.Dis xs xs.length)) : fxs xs ys = 0 := by
  unfold fxs
  rw [dif_neg fun h2 => h ⟨h2.1, h2.2.1⟩]
section
variable {w : World} {o o2 : Value} {xs ys : List Nat} {d k : Nat}
end

end Go.Proofs.Ytcbcmnbfflaicaa

/-
  What the statements on roots want: lists of roots; numbers, sorted; the roots of a product.
-/
namespace Go.Proofs.Ytcbcmnbfflaicaa
open Go.RowKit

/-! ### lists of roots -/
/-- The roots of s, rising. -/
def Rv (w : World) (o : Value) (s : Pl) : Prop := ∃ A n c rs, o = .slice A n c ∧ Pt w A n c rs ∧ Pl.Rof s rs ∧ rs.Pairwise (· < ·)
theorem Rv.below {w w' : World} {o : Value} {s : Pl} (h : Rv w o s) (hb : Below w.heap.size w w') : Rv w' o s := by
  obtain ⟨A, n, c, rs, e, h1, h2⟩ := h
  exact ⟨A, n, c, rs, e, h1.below hb, h2⟩
theorem Rv.new {w : World} {o : Value} {s : Pl} (h : Rv w o s) (x : Obj) : Rv (w.alloc x) o s := h.below ((Below.refl _ w).alloc (Nat.le_refl _) _)
section
variable {w : World} {o o2 : Value} {s : Pl} {d k : Nat}
theorem roots_v (h : Qv w o s d) (hd : d ≤ 13) (h0 : s ≠ 0) : Calls Try.prog 52 #[o] w fun e w' => (∃ z, e = .returned z ∧ Rv w' z s) ∧ Below w.heap.size w w' := by
  obtain ⟨A, n, c, l, rfl, h1, h2, h3, rfl⟩ := h
  refine (roots_any A n c l w h1.1 (by omega) h2 h1.2.1).mono ?_
  rintro e w' ⟨⟨A', n', c', rs, rfl, hp, _, hr⟩, hb⟩
  have hr := hr h0
  exact ⟨⟨_, rfl, A', n', c', rs, rfl, hp, hr.1, hr.2.rise hr.1.2.1⟩, hb⟩
theorem roots0_v (h : Qv w o 0 d) (hd : d ≤ 13) : Calls Try.prog 52 #[o] w fun e w' => (∃ A c, e = .returned (.slice A (0 : Nat) c)) ∧ Below w.heap.size w w' := by
  obtain ⟨A, n, c, l, rfl, h1, h2, h3, h4⟩ := h
  refine (roots_any A n c l w h1.1 (by omega) h2 h1.2.1).mono ?_
  rintro e w' ⟨⟨A', n', c', rs, rfl, hp, hr, _⟩, hb⟩
  have hrs := hr h4
  subst hrs
  have hn : n' = 0 := hp.1
  subst hn
  exact ⟨⟨A', c', rfl⟩, hb⟩
/-- Numbers, modulo the prime, rising, each once. -/
def Sv (w : World) (o : Value) (l : List Nat) : Prop := ∃ A n c L, o = .slice A n c ∧ Pt w A n c L ∧ Srtd l l.length L
theorem Sv.below {w w' : World} {o : Value} {l : List Nat} (h : Sv w o l) (hb : Below w.heap.size w w') : Sv w' o l := by
  obtain ⟨A, n, c, L, e, h1, h2⟩ := h
  exact ⟨A, n, c, L, e, h1.below hb, h2⟩
theorem Sv.new {w : World} {o : Value} {l : List Nat} (h : Sv w o l) (x : Obj) : Sv (w.alloc x) o l := h.below ((Below.refl _ w).alloc (Nat.le_refl _) _)
/-- The roots are the numbers. -/
def Ro (s : Pl) (l : List Nat) : Prop := ∀ x, Pl.val s (Fld.to x) = 0 ↔ ∃ j, j < l.length ∧ Fld.to x = Pl.co l j
end
theorem prodR_root : ∀ (l : List Nat) (x : Fld.F), Pl.val (Pl.prodR l) x = 0 ↔ ∃ j, j < l.length ∧ x = Pl.co l j
  | [], x => ⟨fun h => absurd ((Pl.val_C 1 x).symm.trans h) Fld.one_ne, fun ⟨j, h, _⟩ => absurd h (Nat.not_lt_zero j)⟩
  | r :: l, x => by
    show Pl.val (Pl.lin (Fld.to r) * Pl.prodR l) x = 0 ↔ _
    rw [Pl.val_mul (Pl.Po.lin _) (Pl.Po.prodR l), Fld.mul_eq_zero, prodR_root l x, Pl.val_lin]
    constructor
    · rintro (h | ⟨j, h1, h2⟩)
      · exact ⟨0, by simp, by show x = Fld.to r; grind⟩
      · exact ⟨j + 1, by simp; omega, h2⟩
    · rintro ⟨j, h1, h2⟩
      cases j with
      | zero => left; have h3 : x = Fld.to r := h2; grind
      | succ j => right; exact ⟨j, by simp at h1; omega, h2⟩

end Go.Proofs.Ytcbcmnbfflaicaa

/-
  PolyLagrange: From has the values that were told, and a lesser degree than there are; a polynomial's own values lead back to it.
-/
namespace Go.Proofs.Ytcbcmnbfflaicaa
open Go.RowKit

/-! ### two lists that grow beside each other -/
/-- A list of its own, and its block. -/
def Gb (B : Nat) (w : World) (o : Value) (L : List Nat) : Prop := ∃ A c, o = .slice A L.length c ∧ w.ownsRow B 22 1 o L.length (u64s L)
theorem Gb.gl {B : Nat} {w : World} {o : Value} {L : List Nat} (h : Gb B w o L) : Gl B w o L := by
  obtain ⟨A, c, rfl, h1⟩ := h
  exact ⟨A, c, rfl, h1⟩
theorem Gb.nil (B : Nat) (w : World) : Gb B w (.slice none 0 0) [] := ⟨none, 0, rfl, World.ownsRow_nil w B 22 1⟩
theorem Gb.below {B : Nat} {w w' : World} {o : Value} {L : List Nat} (h : Gb B w o L) (hb : Below w.heap.size w w') : Gb B w' o L := by
  obtain ⟨A, c, e, h1⟩ := h
  exact ⟨A, c, e, own_below h1 hb⟩
/-- They share no memory. -/
def Apart (a b : Value) : Prop := ∀ k, some k = a.ownBlock → some k ≠ b.ownBlock
theorem Apart.symm {a b : Value} (h : Apart a b) : Apart b a := fun k h1 h2 => h k h2 h1
theorem Gb.grown {B : Nat} {w w' : World} {o u : Value} {L : List Nat} (h : Gb B w o L) (hg : w.grownBy w' u.ownBlock) (ha : Apart o u) : Gb B w' o L := by
  obtain ⟨A, c, e, h1⟩ := h
  exact ⟨A, c, e, own_kept h1 fun k hk hl => hg.block k hl (ha k hk)⟩
theorem push_own {w : World} {lo : Nat} {v : Value} {old : List Nat} (x : Nat) (h : Gb lo w v old) (hlo : lo ≤ w.heap.size) (hlen : old.length + 1 ≤ 10000000) :
    ∃ g c w1, (Builtin.append_ #[25, 25] 25 #[v, .slice (some ⟨w.heap.size, 0, none⟩) 1 1]).run Try.prog (w.alloc (.cells #[.int .u64 (x : Int)] 22)) = .ok (.slice (some ⟨g, 0, none⟩) (old.length + 1) c) w1 ∧
      w1.ownsRow lo 22 1 (.slice (some ⟨g, 0, none⟩) (old.length + 1) c) (old.length + 1) (u64s (old ++ [x])) ∧ (w.alloc (.cells #[.int .u64 (x : Int)] 22)).grownBy w1 v.ownBlock ∧ (some g = v.ownBlock ∨ w.heap.size < g) := by
  obtain ⟨A0, c0, e0, h⟩ := h
  obtain ⟨i0, hi, hz0, hz1, hz2⟩ := info_parts info_u64
  have hown : (w.alloc (.cells #[.int .u64 (x : Int)] 22)).ownsRow lo 22 1 v old.length (u64s old) := h.alloc _
  have hnews : ∀ j u, [Value.int .u64 (x : Int)][j]? = some u → (w.alloc (.cells #[.int .u64 (x : Int)] 22)).cell? ((⟨w.heap.size, 0, none⟩ : Addr).add j) = some u := cell_one_new _ _ _
  have hsz : (w.alloc (.cells #[.int .u64 (x : Int)] 22)).heap.size = w.heap.size + 1 := by simp
  obtain ⟨v', w', hr, h2, h3, h4⟩ := run_append_own (P := Try.prog) (w := w.alloc (.cells #[.int .u64 (x : Int)] 22)) lo 25 25 22 i0 (.int .u64 0) 1 8 Try.underlying25 hi hz0 hz1 hz2 rfl (by decide) v old.length (u64s old) hown
    ⟨w.heap.size, 0, none⟩ 1 1 [.int .u64 (x : Int)] rfl hnews (by simp [Value.oneCell']) (by simp [maxLen]; omega) (by omega) (by omega)
  rcases h2.2 with ⟨rfl, e0⟩ | ⟨g, cap, cur, rfl, h5⟩
  · omega
  · have hgo : some g = v.ownBlock ∨ w.heap.size < g := by
      rcases hown.2 with ⟨rfl, e0⟩ | ⟨g0, cap0, cur0, rfl, b1, b2, b3, b4, b5, b6⟩
      · have hr2 := run_append_nil (P := Try.prog) (w := w.alloc (.cells #[.int .u64 (x : Int)] 22)) 25 25 22 i0 (.int .u64 0) Try.underlying25 hi hz0 ⟨w.heap.size, 0, none⟩ 1 1 [.int .u64 (x : Int)] (by rw [hz1]; rfl) hnews (by omega) (by omega) (by rw [hz2]; omega)
        rw [hr2, hsz] at hr
        injection hr with hv _
        injection hv with hv _ _
        injection hv with hv
        injection hv with hv
        right; omega
      · by_cases hroom : old.length + 1 ≤ cap0
        · have hr2 := run_append_room (P := Try.prog) (w := w.alloc (.cells #[.int .u64 (x : Int)] 22)) 25 25 22 i0 Try.underlying25 hi g0 old.length cap0 cur0 b2 ⟨w.heap.size, 0, none⟩ 1 1 [.int .u64 (x : Int)] (by rw [hz1]; rfl) hnews (by simp [Value.oneCell']) hroom (by rw [hz1, b5]; simp; omega)
          rw [hr2] at hr
          injection hr with hv _
          injection hv with hv _ _
          injection hv with hv
          injection hv with hv
          left; rw [hv]; rfl
        · have hr2 := run_append_grow (P := Try.prog) (w := w.alloc (.cells #[.int .u64 (x : Int)] 22)) 25 25 22 i0 (.int .u64 0) Try.underlying25 hi hz0 ⟨g0, 0, none⟩ old.length cap0 (u64s old) (by rw [hz1]; exact hown.1) (hown.cells (g := g0) rfl) ⟨w.heap.size, 0, none⟩ 1 1 [.int .u64 (x : Int)] (by rw [hz1]; rfl) hnews (by omega) (by omega) (by rw [hz2]; exact growslice_fits (by omega) (by omega))
          rw [hr2, hsz] at hr
          injection hr with hv _
          injection hv with hv _ _
          injection hv with hv
          injection hv with hv
          right; omega
    exact ⟨g, cap, w', hr, by rw [u64s_snoc]; exact h2, h3, hgo⟩
theorem wpList_push2 {ops : Array Oper} {rest : List Oper} {o : Oper} {a : Act} {Q : Exit → Act → World → Prop} {w : World} (hgd : o.guard = none) (s x : Operand)
    (ho : o.op = .call { callee := .builtin .append, args := #[s, x], argTypes := #[25, 25] }) (hty : o.type = 25) (B v : Nat) (L L2 : List Nat) (u u2 : Value) (hg : Gb B w u L) (hg2 : Gb B w u2 L2) (hap : Apart u u2) (hs : a.eval s = u) (hx : a.eval x = .slice (some ⟨w.heap.size, 0, none⟩) 1 1) (hk : L.length + 1 ≤ 10000000) (hB : B ≤ w.heap.size)
    (h : ∀ z w1, Gb B w1 z (L ++ [v]) → Gb B w1 u2 L2 → Apart z u2 → Below B w w1 → wpList Try.prog ops Q rest (a.put o.dst z) w1) : wpList Try.prog ops Q (o :: rest) a (w.alloc (.cells #[.int .u64 (v : Int)] 22)) := by
  obtain ⟨g, c, w1, hr, h1, h2, h3⟩ := push_own v hg hB hk
  refine wpList_plain hgd fun K hK => ?_
  unfold Oper.wp execOp
  simp only [ho, hty, resolve, invoke, builtin, Sem.run_bind, Sem.run_pure, Result.andThen_ok, List.map_toArray, List.map_cons, List.map_nil, hs, hx, hr]
  refine hK _ _ (h _ w1 ⟨_, c, by rw [List.length_append]; rfl, by rw [List.length_append]; exact h1⟩ ((hg2.below ((Below.refl _ w).alloc (Nat.le_refl _) _)).grown h2 hap.symm) ?_ ?_)
  · intro k hk1 hk2
    have e : k = g := by injection hk1
    subst e
    rcases h3 with h3 | h3
    · exact hap k h3 hk2
    · obtain ⟨A2, c2, _, hrow2⟩ := hg2
      have := (own_ge hrow2 hk2).2
      omega
  · exact ((Below.refl B w).alloc hB _).grown h2 (by simp; omega) (fun j e => (own_ge (by obtain ⟨A0, c0, _, hrow⟩ := hg; exact hrow) e.symm).1)

theorem rise_dis {L : List Nat} {n : Nat} (hn : n = L.length) (h : L.Pairwise (· < ·)) (hs : Pl.Sm L) : Pl.Dis L n := fun i j hij hj e => by
  have h1 := rise_lt h hij (by omega)
  have h2 := Pl.to_inj' (hs.get i) (hs.get j) e
  omega
theorem Gb.list {B : Nat} {w : World} {o : Value} {L : List Nat} {n : Nat} (h : Gb B w o L) (hn : n = L.length) : ∃ A c, o = .slice A n c ∧ Pt w A n c L := by
  subst hn
  obtain ⟨A, c, rfl, hp, _⟩ := h.gl.pt
  exact ⟨A, c, rfl, hp⟩

end Go.Proofs.Ytcbcmnbfflaicaa

/-
  PolyFactors: x less a root divides what it is a root of, and nothing else of that form; there are no more roots than the degree, and those of a product are those of both.
-/
namespace Go.Proofs.Ytcbcmnbfflaicaa
open Go.RowKit

/-- What the sort leaves, in memory of its own. -/
def SortedO (s : Pl) (Br lo : Nat) (v : Value) (w : World) (e : Ending) (w' : World) : Prop :=
  (∃ r, e = .returned r) ∧ w'.cell? ⟨Br, 0, none⟩ = some v ∧ (∃ rs, Gl lo w' v rs ∧ Pl.Rof s rs ∧ Up rs) ∧ Below lo w w'
theorem rt_sortO {s : Pl} {Br lo : Nat} {w : World} (h : RtW s Br lo w) (hBr : Br < lo) (hlo : lo ≤ w.heap.size) : ∃ v, w.cell? ⟨Br, 0, none⟩ = some v ∧ Calls Try.prog 72 #[v] w (SortedO s Br lo v w) := by
  obtain ⟨v, rs, ⟨h1, h2, ⟨A, c, rfl⟩, h3, h4⟩, h5, h6⟩ := h
  refine ⟨_, h1, ?_⟩
  rcases Nat.eq_zero_or_pos rs.length with h0 | h0
  · have hnil : rs = [] := List.eq_nil_of_length_eq_zero h0
    subst hnil
    refine (sort_none A c w).mono ?_
    rintro e w' ⟨h7, h8⟩
    exact ⟨h7, (h8.cell (p := ⟨Br, 0, none⟩) (by show Br < w.heap.size; omega)).trans h1, ⟨[], ⟨A, c, rfl, own_below ⟨h3, h4⟩ h8⟩, h5, List.Pairwise.nil⟩, h8.mono hlo⟩
  · rcases h4 with ⟨_, e2⟩ | ⟨g, cap, cur, e2, g1, g2, g3, g4, g5, g6⟩
    · omega
    · injection e2 with e2 e3 e4
      subst e2 e4
      have hax : Ax w g rs (cur.toList.drop (rs.length * 1)) := by
        unfold Ax Blk
        rw [← g6, List.take_append_drop]
        exact g2
      refine (sort_any g rs.length c rs _ w hax rfl h0 h6 h5.1.big).mono ?_
      rintro e w' ⟨h7, ⟨L, h8, h9, h10⟩, h11⟩
      have hLl := h9.length_eq
      refine ⟨h7, (World.cell?_of_block (a := ⟨Br, 0, none⟩) (h11.block Br (by omega) (by intro e; injection e with e; omega))).trans h1, ⟨L, ⟨_, c, by rw [hLl], by rw [u64s_len, Nat.mul_one], .inr ⟨g, c, _, by rw [hLl], g1, h8, by omega, g4, ?_, ?_⟩⟩, h5.perm h9, h10⟩, ⟨h11.os, h11.tape, h11.output, h11.size, fun k hk => h11.block k (by omega) (by intro e; injection e with e; omega)⟩⟩
      · simp only [List.size_toArray, List.length_append, u64s_len, List.length_drop, Array.length_toList]; omega
      · rw [List.toList_toArray, Nat.mul_one, List.take_left' (by rw [u64s_len])]
/-- What Roots tells, of a polynomial that is not 0. -/
def RootsO (lo : Nat) (s : Pl) (e : Ending) (w' : World) : Prop := ∃ z rs, e = .returned z ∧ Gl lo w' z rs ∧ Pl.Rof s rs ∧ Up rs
theorem Gl.base_ {B B' : Nat} {w : World} {o : Value} {L : List Nat} (h : Gl B w o L) (hB : B' ≤ B) : Gl B' w o L := by
  obtain ⟨A, c, e, h1, h2⟩ := h
  refine ⟨A, c, e, h1, ?_⟩
  rcases h2 with h2 | ⟨g, cap, cur, h3, h4, h5⟩
  · exact .inl h2
  · exact .inr ⟨g, cap, cur, h3, Nat.le_trans hB h4, h5⟩

set_option maxRecDepth 100000 in
set_option maxHeartbeats 4000000 in
theorem roots_own (A : Option Addr) (la ca : Nat) (a : List Nat) (w : World) (hn : la = a.length) (hla : la ≤ 13) (ha : ∀ y ∈ a, y < 18446744073709551616) (hA : Rd w.heap.size w A (u64s a)) (hne : Pl.co a ≠ 0) :
    Calls Try.prog 52 #[.slice A la ca] w fun e w' => RootsO w.heap.size (Pl.co a) e w' ∧ Below w.heap.size w w' := by
  obtain ⟨ex, hex⟩ : ∃ ex : Nat, (ex : Int) = 1152921504606846975 := ⟨1152921504606846975, rfl⟩
  have HEX := Lib.hid hex
  have hex0 : 0 < ex := by omega
  clear hex
  have h1 := trim_poly A la ca a w hn (by omega) ha hA
  have H1 := Lib.hid h1
  have HA := Lib.hid (hn ▸ hla : a.length ≤ 13)
  have HNE := Lib.hid hne
  clear h1 hn ha hA hne
  go_enter Try.func52, Try.ntmps52
  go_wp2_with fail
  refine H1.out.mono ?_
  rintro e w1 ⟨hg1, hb1⟩
  obtain ⟨g1, n1, c1, L1, rfl, hl1, ho1, ht1⟩ := hg1.own
  have hn1 : n1 ≤ 13 := Nat.le_trans (ho1.len ht1 (Pl.Lt.co a)) HA.out
  have HO1 := Lib.hid ho1
  have HT1 := Lib.hid ht1
  clear hg1 ho1 ht1
  rcases Nat.eq_zero_or_pos n1 with h0 | h0
  · subst h0
    have hz : Pl.co a = 0 := (HO1.out.zero HT1.out).1 rfl
    have HZ := Lib.hid hz
    clear hz
    exact absurd HZ.out HNE.out
  · have z1 : ((n1 : Int) == 0) = false := by rw [beq_eq_false_iff_ne]; omega
    have hnz : Pl.co a ≠ 0 := fun h => by have := (HO1.out.zero HT1.out).2 h; omega
    have HNZ := Lib.hid hnz
    clear hnz
    go_upto_region 7 with (fail)
    have hB := rt_box w1 (.func (.func 69) #[] #[.pointer (some ⟨w1.heap.size, 0, none⟩), .pointer (some ⟨w1.heap.size + 1, 0, none⟩)])
    have hC : ((w1.alloc (.cells #[.slice none 0 0] 25)).alloc (.cells #[.func (.func 69) #[] #[.pointer (some ⟨w1.heap.size, 0, none⟩), .pointer (some ⟨w1.heap.size + 1, 0, none⟩)]] 90)).cell? ⟨w1.heap.size + 1, 0, none⟩ =
        some (.func (.func 69) #[] #[.pointer (some ⟨w1.heap.size, 0, none⟩), .pointer (some ⟨w1.heap.size + 1, 0, none⟩)]) := by
      have h := (cell_new_l (w1.alloc (.cells #[.slice none 0 0] 25)) (.func (.func 69) #[] #[.pointer (some ⟨w1.heap.size, 0, none⟩), .pointer (some ⟨w1.heap.size + 1, 0, none⟩)]) 90).1
      rwa [show (w1.alloc (.cells #[.slice none 0 0] 25)).heap.size = w1.heap.size + 1 by simp] at h
    have hD : Below w1.heap.size w1 ((w1.alloc (.cells #[.slice none 0 0] 25)).alloc (.cells #[.func (.func 69) #[] #[.pointer (some ⟨w1.heap.size, 0, none⟩), .pointer (some ⟨w1.heap.size + 1, 0, none⟩)]] 90)) := ((Below.refl _ w1).alloc (Nat.le_refl _) _).alloc (by simp) _
    have hE : ((w1.alloc (.cells #[.slice none 0 0] 25)).alloc (.cells #[.func (.func 69) #[] #[.pointer (some ⟨w1.heap.size, 0, none⟩), .pointer (some ⟨w1.heap.size + 1, 0, none⟩)]] 90)).heap.size = w1.heap.size + 2 := by simp
    obtain ⟨w2, hw2⟩ : ∃ w2, w2 = ((w1.alloc (.cells #[.slice none 0 0] 25)).alloc (.cells #[.func (.func 69) #[] #[.pointer (some ⟨w1.heap.size, 0, none⟩), .pointer (some ⟨w1.heap.size + 1, 0, none⟩)]] 90)) := ⟨_, rfl⟩
    rw [← hw2] at hB hC hD hE
    rw [← hw2]
    have HP := Lib.hid (root_pow2 g1 n1 c1 L1 (Pl.co a) w1 w2 hD HO1.out HT1.out h0 hn1)
    have HG := Lib.hid (root_gcd2 ex g1 n1 c1 L1 (Pl.co a) w1 w2 hD HO1.out HT1.out HNZ.out hn1)
    have HS := Lib.hid (root_split2 ex hex0 HEX.out (Pl.co a) w w1 w2 hb1 hD hE hC hB)
    have HAD := Lib.hid (root_add2 (Pl.co a) w2)
    have HE := Lib.hid hE
    have hlt : w1.heap.size < w2.heap.size := by omega
    have hr0 : Below w2.heap.size w2 w2 := Below.refl _ _
    clear hB hE hw2 hD
    go_cut [] (fun wx => ∃ W : World, W = wx ∧ RtE (Pl.co a) w1.heap.size w2.heap.size w.heap.size w W ∧ w2.heap.size ≤ W.heap.size)
    case first =>
      go_region_held3 (fun w' : World => w'.cell? ⟨w1.heap.size + 1, 0, none⟩ = some (.func (.func 69) #[] #[.pointer (some ⟨w1.heap.size, 0, none⟩), .pointer (some ⟨w1.heap.size + 1, 0, none⟩)]))
        ((first | assumption | exact ((by (repeat (first | assumption | exact Below.refl _ _ | refine below_to_drew ?_ | refine below_allocS ?_ _)) : Below w2.heap.size w2 _).cell (p := ⟨w1.heap.size + 1, 0, none⟩) (by show w1.heap.size + 1 < w2.heap.size; have := HE.out; omega)).trans hC))
        (first
          | (go_at_call 71; ((with_reducible refine (HP.out _ (by (repeat (first | assumption | exact Below.refl _ _ | refine below_to_drew ?_ | refine below_allocS ?_ _)))).mono ?_); rintro e w3 ⟨⟨x3, rfl, hx3⟩, hb3, hb3W⟩))
          | (go_at_call 70; have q1 := HAD.out (w3.alloc (.cells #[.int .u64 0, .int .u64 2305843009213693950] 22)) (below_allocS hb3 _) x3 w3.heap.size (hx3.below ((Below.refl _ _).alloc (Nat.le_refl _) _)) (rd_pairP w3); ((with_reducible refine q1.mono ?_); rintro e w4 ⟨⟨x4, rfl, hx4⟩, hb4⟩))
          | (go_at_call 70; have q1 := HAD.out w3 hb3 x3 w2.heap.size hx3 (((rd_pairD w2).below hb3W).more hb3W.size); ((with_reducible refine q1.mono ?_); rintro e w4 ⟨⟨x4, rfl, hx4⟩, hb4⟩))
          | (go_at_call 50; ((with_reducible refine (HG.out _ hb4 x4 hx4).mono ?_); rintro e w5 ⟨⟨x5, rfl, hx5⟩, hb5⟩))
          | (go_at_call 69; ((with_reducible refine (HS.out _ hb5 x5 hx5).mono ?_); rintro e w6 ⟨⟨r6, rfl⟩, hr6, hcs6, hz6⟩)))
      all_goals (go_wp2_with fail; go_meet; exact ⟨_, rfl, hr6, hz6⟩)
    case rest =>
      obtain ⟨W, rfl, hRt, hzW⟩ := hcut
      obtain ⟨v, hv, hcall⟩ := rt_sortO hRt.1 hlt hzW
      have HV := Lib.hid hv
      have HCL := Lib.hid hcall
      clear hcall hC
      go_wp2_with fail
      refine HCL.out.mono ?_
      rintro e w9 ⟨⟨r, rfl⟩, hv9, hs9, hb9⟩
      have HS9 := Lib.hid hs9
      have hb0 : Below w.heap.size w w9 := hRt.2.trans (hb9.mono (by have := hRt.2.size; have := hb1.size; have := HE.out; omega))
      clear hs9 hb9
      go_wp2
      obtain ⟨rs, hg9, hr9, hu9⟩ := HS9.out
      have hlo : w.heap.size ≤ w2.heap.size := by have := hb1.size; omega
      have HF := Lib.hid (And.intro (hg9.base_ hlo) (And.intro hr9 hu9))
      clear hg9 hr9 hu9 HS9 hv hv9 HCL HV
      go_ret
      exact ⟨⟨v, rs, rfl, HF.out⟩, hb0⟩
end Go.Proofs.Ytcbcmnbfflaicaa

namespace Go.Proofs.Ytcbcmnbfflaicaa
open Go.RowKit

section
variable {w : World} {o o2 : Value} {s : Pl} {d k : Nat}
theorem roots_ov (h : Qv w o s d) (hd : d ≤ 13) (h0 : s ≠ 0) : Calls Try.prog 52 #[o] w fun e w' => (∃ z rs, e = .returned z ∧ Gl w.heap.size w' z rs ∧ Pl.Rof s rs) ∧ Below w.heap.size w w' := by
  obtain ⟨A, n, c, l, rfl, h1, h2, h3, rfl⟩ := h
  refine (roots_own A n c l w h1.1 (by omega) h2 h1.2.1 h0).mono ?_
  rintro e w' ⟨⟨z, rs, rfl, hg, hr, _⟩, hb⟩
  exact ⟨⟨z, rs, rfl, hg, hr⟩, hb⟩
theorem roots_lv (h : Qv w o s d) (hd : d ≤ 13) (h0 : s ≠ 0) : Calls Try.prog 52 #[o] w fun e w' => (∃ A n c rs, e = .returned (.slice A n c) ∧ Rv w' (.slice A n c) s ∧ Pt w' A n c rs ∧ Pl.Rof s rs ∧ n < d) ∧ Below w.heap.size w w' := by
  obtain ⟨m, hm, hg⟩ := Pl.dg_of d s h.lt h0
  obtain ⟨A, n, c, l, rfl, h1, h2, h3, rfl⟩ := h
  refine (roots_any A n c l w h1.1 (by omega) h2 h1.2.1).mono ?_
  rintro e w' ⟨⟨A', n', c', rs, rfl, hp, _, hr⟩, hb⟩
  have hr := hr h0
  have := hr.1.len hg
  have := hp.1
  exact ⟨⟨A', n', c', rs, rfl, ⟨A', n', c', rs, rfl, hp, hr.1, hr.2.rise hr.1.2.1⟩, hp, hr.1, by omega⟩, hb⟩
theorem divf_v {x : Nat} (h : Qv w o s d) (h' : Qv w o2 (Pl.prodR [x]) k) (hd : d ≤ 100000) (hk : k ≤ 100000) : Calls Try.prog 51 #[o, o2] w fun e w' => (∃ z A n c, e = .returned (.tuple #[z, .slice A n c]) ∧ (n = 0 ↔ vl s x = 0)) ∧ Below w.heap.size w w' := by
  have hps := h.po
  refine (divmod_v h h' hd hk).mono ?_
  rintro e w' ⟨⟨z, z2, q, r, rfl, hz, hr, _, hdm⟩, hb⟩
  have e1 : Pl.prodR [x] = Pl.lin (Fld.to x) := Pl.mul_one _
  have hne : Pl.prodR [x] ≠ 0 := (Pl.Dg.prodR [x]).1.ne
  have hdm := hdm hne
  rw [e1] at hdm hne
  obtain ⟨A, n, c, rfl, _, hn, _⟩ := hr.open_
  refine ⟨⟨z, A, n, c, rfl, ?_⟩, hb⟩
  rw [hn, vl_zero, ← Pl.dv_lin hps]
  constructor
  · intro h0
    exact ⟨q, hdm.1, by rw [hdm.2.2.1, h0, Pl.add_zero, Pl.mul_comm]⟩
  · rintro ⟨q', hq', e'⟩
    exact (hdm.uniq (Pl.Po.lin _) hne ⟨hq', Pl.Po.zero, by rw [Pl.add_zero, Pl.mul_comm]; exact e', fun n _ => Pl.Lt.zero n⟩).2
theorem nv_one (w : World) (x : Nat) (hx : x < 18446744073709551616) : Nv (w.alloc (.cells #[.int .u64 (x : Int)] 22)) (.slice (some ⟨w.heap.size, 0, none⟩) 1 1) [x] 1 :=
  ⟨_, 1, 1, rfl, ⟨rfl, rd_news w [x], Nat.le_refl _, fun e => by cases e⟩, by intro y hy; rw [List.mem_singleton.1 hy]; exact hx, Nat.le_refl _⟩
end
theorem rof_lenI {w : World} {o : Value} {s : Pl} {d : Nat} (h : Qv w o s d) (h0 : s ≠ 0) (hd : d ≤ 1000) : ∀ rs, Pl.Rof s rs → rs.length ≤ 1000 := fun rs hr => by
  obtain ⟨m, hm, hg⟩ := Pl.dg_of d s h.lt h0
  have := hr.len hg
  omega
theorem co_append_left (a b : List Nat) {j : Nat} (h : j < a.length) : Pl.co (a ++ b) j = Pl.co a j := by rw [Pl.co_at, Pl.co_at, List.getElem?_append_left h]
theorem co_append_right (a b : List Nat) (j : Nat) : Pl.co (a ++ b) (a.length + j) = Pl.co b j := by rw [Pl.co_at, Pl.co_at, List.getElem?_append_right (by omega), Nat.add_sub_cancel_left]
theorem rof_ex {s : Pl} {rs : List Nat} (h : Pl.Rof s rs) (x : Nat) : Pl.val s (Fld.to x) = 0 ↔ ∃ j, j < rs.length ∧ Fld.to x = Pl.co rs j := by
  have hx : Fld.to (x % Fld.P) = Fld.to x := Fld.to_mod x
  have hxl : x % Fld.P < 2305843009213693951 := Nat.mod_lt _ (by decide)
  rw [← hx, ← h.2.2 _ hxl, mem_getD]
  constructor
  · rintro ⟨j, hj, e⟩; exact ⟨j, hj, by rw [← e]; rfl⟩
  · rintro ⟨j, hj, e⟩; exact ⟨j, hj, (Pl.to_inj' hxl (h.1.get j) e).symm⟩
theorem ro_both {p q : Pl} {a b : List Nat} (hp : Pl.Po p) (hq : Pl.Po q) (ha : Pl.Rof p a) (hb : Pl.Rof q b) : Ro (p * q) (a ++ b) := fun x => by
  rw [Pl.val_mul hp hq, Fld.mul_eq_zero, rof_ex ha, rof_ex hb]
  constructor
  · rintro (⟨j, hj, e⟩ | ⟨j, hj, e⟩)
    · exact ⟨j, by rw [List.length_append]; omega, by rw [co_append_left _ _ hj]; exact e⟩
    · exact ⟨a.length + j, by rw [List.length_append]; omega, by rw [co_append_right]; exact e⟩
  · rintro ⟨j, hj, e⟩
    rw [List.length_append] at hj
    rcases Nat.lt_or_ge j a.length with h | h
    · rw [co_append_left _ _ h] at e; exact .inl ⟨j, h, e⟩
    · obtain ⟨i, rfl⟩ : ∃ i, j = a.length + i := ⟨j - a.length, by omega⟩
      rw [co_append_right] at e
      exact .inr ⟨i, by omega, e⟩

end Go.Proofs.Ytcbcmnbfflaicaa
