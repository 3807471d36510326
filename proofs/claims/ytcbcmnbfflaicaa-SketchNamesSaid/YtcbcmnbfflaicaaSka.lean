/-
  Sketches, without any program: sums, the equations of two sketches, what solves them, and that the quotient is that of the lists that fit.
-/
import Derived.Test.YtcbcmnbfflaicaaJd
namespace Go.Proofs.Ytcbcmnbfflaicaa
open Fld (F)

namespace Sk
/-- The sum of the first so many. -/
def sm (f : Nat → F) : Nat → F
  | 0 => 0
  | n + 1 => sm f n + f n
theorem sm_congr {f g : Nat → F} : ∀ {n : Nat}, (∀ i, i < n → f i = g i) → sm f n = sm g n
  | 0, _ => rfl
  | n + 1, h => by
    show sm f n + f n = sm g n + g n
    rw [sm_congr (n := n) (fun i hi => h i (by omega)), h n (by omega)]
theorem sm_add (f g : Nat → F) : ∀ n, sm (fun i => f i + g i) n = sm f n + sm g n
  | 0 => by show (0 : F) = 0 + 0; rw [Fin.add_zero]
  | n + 1 => by show sm (fun i => f i + g i) n + (f n + g n) = sm f n + f n + (sm g n + g n); rw [sm_add f g n]; grind
theorem sm_mul (c : F) (f : Nat → F) : ∀ n, sm (fun i => c * f i) n = c * sm f n
  | 0 => by show (0 : F) = c * 0; rw [Fin.mul_zero]
  | n + 1 => by show sm (fun i => c * f i) n + c * f n = c * (sm f n + f n); rw [sm_mul c f n]; grind
theorem sm_zero {f : Nat → F} : ∀ {n : Nat}, (∀ i, i < n → f i = 0) → sm f n = 0
  | 0, _ => rfl
  | n + 1, h => by show sm f n + f n = 0; rw [sm_zero (n := n) (fun i hi => h i (by omega)), h n (by omega), Fin.add_zero]
theorem sm_split (f : Nat → F) (m : Nat) : ∀ n, sm f (m + n) = sm f m + sm (fun i => f (m + i)) n
  | 0 => by show sm f m = sm f m + 0; grind
  | n + 1 => by
    show sm f (m + n) + f (m + n) = sm f m + (sm (fun i => f (m + i)) n + f (m + n))
    rw [sm_split f m n]; grind
theorem sm_one {f : Nat → F} {n j : Nat} (hj : j < n) (h : ∀ i, i < n → i ≠ j → f i = 0) : sm f n = f j := by
  induction n with
  | zero => omega
  | succ n ih =>
    show sm f n + f n = f j
    by_cases e : j = n
    · rw [sm_zero (fun i hi => h i (by omega) (by omega)), e]; grind
    · rw [ih (by omega) (fun i hi hn => h i (by omega) hn), h n (by omega) (by omega)]; grind

/-- A row, times unknowns. -/
def dot (u : Nat) (r v : Nat → F) : F := sm (fun i => r i * v i) (u + 1)

theorem ev_sm (x : F) : ∀ (n : Nat) (s : Pl), Pl.ev n s x = sm (fun i => Fld.up x i * s i) n
  | 0, _ => rfl
  | n + 1, s => by
    show s 0 + x * Pl.ev n (Pl.tl s) x = _
    rw [ev_sm x n (Pl.tl s), Nat.add_comm n 1, sm_split]
    have e : sm (fun i => Fld.up x i * s i) 1 = s 0 := by show (0 : F) + 1 * s 0 = s 0; grind
    rw [e, ← sm_mul]
    congr 1
    exact sm_congr fun i _ => by
      show x * (Fld.up x i * s (i + 1)) = Fld.up x (1 + i) * s (1 + i)
      rw [Nat.add_comm 1 i, Fld.up_succ]; grind

/-- A monic polynomial of degree d, of its lower coefficients. -/
def mon (d : Nat) (v : Nat → F) : Pl := fun i => if i < d then v i else if i = d then 1 else 0
theorem mon_dg (d : Nat) (v : Nat → F) : Pl.Dg (mon d v) d ∧ mon d v d = 1 := by
  have h1 : mon d v d = 1 := by unfold mon; rw [if_neg (by omega), if_pos rfl]
  refine ⟨⟨by rw [h1]; exact Fld.one_ne, fun i hi => ?_⟩, h1⟩
  unfold mon; rw [if_neg (by omega), if_neg (by omega)]
theorem mon_val (d : Nat) (v : Nat → F) (x : F) : Pl.val (mon d v) x = sm (fun i => Fld.up x i * v i) d + Fld.up x d := by
  rw [Pl.val_eq (mon_dg d v).1.2, ev_sm]
  show sm (fun i => Fld.up x i * mon d v i) d + Fld.up x d * mon d v d = _
  rw [(mon_dg d v).2, sm_congr (g := fun i => Fld.up x i * v i) (fun i hi => by show _ * mon d v i = _; unfold mon; rw [if_pos hi])]
  grind
theorem mon_eq {s : Pl} {d : Nat} {v : Nat → F} (h : Pl.Lt s (d + 1)) (h1 : s d = 1) (hv : ∀ i, i < d → v i = s i) : mon d v = s := Pl.ext fun i => by
  unfold mon
  by_cases c1 : i < d
  · rw [if_pos c1, hv i c1]
  · rw [if_neg c1]
    by_cases c2 : i = d
    · rw [if_pos c2, c2, h1]
    · rw [if_neg c2, h i (by omega)]

/-- The powers of x, each some times. -/
def pwr (x t : Nat) : Nat → Nat
  | 0 => t
  | n + 1 => Fld.mul (pwr x t n) x
theorem to_pwr (x t : Nat) : ∀ n, Fld.to (pwr x t n) = Fld.to t * Fld.up (Fld.to x) n
  | 0 => by show Fld.to t = Fld.to t * 1; grind
  | n + 1 => by show Fld.to (Fld.mul (pwr x t n) x) = _; rw [Fld.to_mulF, to_pwr x t n, Fld.up_succ]; grind
theorem pwr_lt {x t : Nat} (h : t < 2305843009213693951) : ∀ n, pwr x t n < 2305843009213693951
  | 0 => h
  | _ + 1 => Fld.mul_lt _ _
/-- The k-th point. -/
def pt (k : Nat) : Nat := 2305843009213693950 - k
/-- An equation's row. -/
def eqn (a b x dF dG : Nat) : List Nat := Pl.tab (pwr x b) dF ++ Pl.tab (pwr x (Fld.sub 0 a)) dG ++ [Fld.add (pwr x b dF) (pwr x (Fld.sub 0 a) dG)]
theorem eqn_len (a b x dF dG : Nat) : (eqn a b x dF dG).length = dF + dG + 1 := by unfold eqn; simp [Pl.tab_len]; omega
theorem eqn_sm {a b x dF dG : Nat} (hb : b < 2305843009213693951) : Pl.Sm (eqn a b x dF dG) := fun y hy => by
  unfold eqn at hy
  rw [List.mem_append, List.mem_append] at hy
  rcases hy with (h | h) | h
  · obtain ⟨i, _, rfl⟩ := List.mem_map.1 h; exact pwr_lt hb i
  · obtain ⟨i, _, rfl⟩ := List.mem_map.1 h; exact pwr_lt (Fld.sub_lt _ _) i
  · rw [List.mem_singleton] at h; rw [h]; exact Fld.add_lt _ _
theorem co_app_l (a b : List Nat) {j : Nat} (h : j < a.length) : Pl.co (a ++ b) j = Pl.co a j := by rw [Pl.co_at, Pl.co_at, List.getElem?_append_left h]
theorem co_app_r (a b : List Nat) {j k : Nat} (h : j = a.length + k) : Pl.co (a ++ b) j = Pl.co b k := by subst h; rw [Pl.co_at, Pl.co_at, List.getElem?_append_right (by omega), Nat.add_sub_cancel_left]
theorem to_neg (a : Nat) : Fld.to (Fld.sub 0 a) = 0 - Fld.to a := by rw [Fld.to_subF]; rfl
theorem dot_eqn (a b x dF dG : Nat) (v : Nat → F) (h1 : v (dF + dG) = 1) :
    dot (dF + dG) (Pl.co (eqn a b x dF dG)) v = Fld.to b * Pl.val (mon dF v) (Fld.to x) - Fld.to a * Pl.val (mon dG (fun i => v (dF + i))) (Fld.to x) := by
  have l1 : (Pl.tab (pwr x b) dF).length = dF := Pl.tab_len _ _
  have l2 : (Pl.tab (pwr x (Fld.sub 0 a)) dG).length = dG := Pl.tab_len _ _
  unfold dot
  show sm _ (dF + dG) + Pl.co (eqn a b x dF dG) (dF + dG) * v (dF + dG) = _
  rw [sm_split, h1]
  rw [sm_congr (n := dF) (g := fun i => Fld.to b * (Fld.up (Fld.to x) i * v i)) (fun i hi => by
    show Pl.co (eqn a b x dF dG) i * v i = _
    unfold eqn
    rw [co_app_l _ _ (by rw [List.length_append]; omega), co_app_l _ _ (by omega), Pl.co_tab, if_pos hi, to_pwr]; grind)]
  rw [sm_congr (n := dG) (g := fun i => (0 - Fld.to a) * (Fld.up (Fld.to x) i * v (dF + i))) (fun i hi => by
    show Pl.co (eqn a b x dF dG) (dF + i) * v (dF + i) = _
    unfold eqn
    rw [co_app_l _ _ (by rw [List.length_append]; omega), co_app_r _ _ (k := i) (by omega), Pl.co_tab, if_pos hi, to_pwr, to_neg]; grind)]
  rw [sm_mul, sm_mul, mon_val, mon_val]
  have e : Pl.co (eqn a b x dF dG) (dF + dG) = Fld.to b * Fld.up (Fld.to x) dF + (0 - Fld.to a) * Fld.up (Fld.to x) dG := by
    unfold eqn
    rw [co_app_r _ _ (k := 0) (by rw [List.length_append]; omega)]
    show Fld.to (Fld.add _ _) = _
    rw [Fld.to_addF, to_pwr, to_pwr, to_neg]
  rw [e]
  grind

/-- Two lists of elements, each rising, that fit two sketches. -/
structure Fit (a b : List Nat) (na nb : Nat) (p q : List Nat) : Prop where
  up : p.Pairwise (· < ·)
  uq : q.Pairwise (· < ·)
  ep : ∀ x ∈ p, 1 ≤ x ∧ x ≤ 1152921504606846976
  eq : ∀ x ∈ q, 1 ≤ x ∧ x ≤ 1152921504606846976
  ap : ∀ x ∈ p, x ∉ q
  few : p.length + q.length + 2 ≤ a.length
  more : p.length + nb = q.length + na
  vals : ∀ k, k < a.length → Pl.co a k * Pl.val (Pl.prodR q) (Fld.to (pt k)) = Pl.co b k * Pl.val (Pl.prodR p) (Fld.to (pt k))

theorem Fit.flip {a b : List Nat} {na nb : Nat} {p q : List Nat} (hl : a.length = b.length) (h : Fit a b na nb p q) : Fit b a nb na q p :=
  ⟨h.uq, h.up, h.eq, h.ep, fun x h1 h2 => h.ap x h2 h1, by have := h.few; omega, h.more.symm, fun k hk => (h.vals k (by omega)).symm⟩

theorem fit_sol {a b : List Nat} {na nb : Nat} {p q : List Nat} {dF dG : Nat} (h : Fit a b na nb p q) (hF : p.length ≤ dF) (hd : dF + q.length = dG + p.length) :
    ∃ v : Nat → F, v (dF + dG) = 1 ∧ ∀ k, k < a.length → dot (dF + dG) (Pl.co (eqn (a[k]?.getD 0) (b[k]?.getD 0) (pt k) dF dG)) v = 0 := by
  obtain ⟨j, hj⟩ : ∃ j, dF = p.length + j := ⟨dF - p.length, by omega⟩
  have hj2 : dG = q.length + j := by omega
  have hX : Pl.X 1 = 1 := rfl
  have hpw := Pl.Dg.pw Pl.Dg.X hX j
  have dP := Pl.Dg.prodR p
  have dQ := Pl.Dg.prodR q
  have tF : Pl.Lt (Pl.prodR p * Pl.pw Pl.X j) (dF + 1) := by rw [hj]; exact (dP.1.mul hpw.1).2
  have tG : Pl.Lt (Pl.prodR q * Pl.pw Pl.X j) (dG + 1) := by rw [hj2]; exact (dQ.1.mul hpw.1).2
  have oF : (Pl.prodR p * Pl.pw Pl.X j) dF = 1 := by rw [hj, Pl.top_mul dP.1.2 hpw.1.2, dP.2, hpw.2]; grind
  have oG : (Pl.prodR q * Pl.pw Pl.X j) dG = 1 := by rw [hj2, Pl.top_mul dQ.1.2 hpw.1.2, dQ.2, hpw.2]; grind
  refine ⟨fun i => if i < dF then (Pl.prodR p * Pl.pw Pl.X j) i else (Pl.prodR q * Pl.pw Pl.X j) (i - dF), ?_, fun k hk => ?_⟩
  · show (if dF + dG < dF then _ else _) = _
    rw [if_neg (by omega), Nat.add_sub_cancel_left, oG]
  · rw [dot_eqn]
    · rw [mon_eq (s := Pl.prodR p * Pl.pw Pl.X j) tF oF (fun i hi => by rw [if_pos hi]), mon_eq (s := Pl.prodR q * Pl.pw Pl.X j) tG oG (fun i hi => by
        show (if dF + i < dF then _ else _) = _
        rw [if_neg (by omega), Nat.add_sub_cancel_left])]
      rw [Pl.val_mul (Pl.Po.prodR p) (Pl.Po.pw Pl.Po.X j), Pl.val_mul (Pl.Po.prodR q) (Pl.Po.pw Pl.Po.X j)]
      have hv := h.vals k hk
      rw [Pl.co_at, Pl.co_at] at hv
      grind
    · show (if dF + dG < dF then _ else _) = _
      rw [if_neg (by omega), Nat.add_sub_cancel_left, oG]

theorem pts_dis {n : Nat} (hn : n ≤ 1000000) : Pl.Dis (Pl.tab pt n) n := fun i j hij hj e => by
  rw [Pl.co_tab, Pl.co_tab, if_pos (by omega), if_pos hj] at e
  have h2 := Fld.to_inj (by unfold pt; omega) (by unfold pt; omega) e
  unfold pt at h2
  omega

theorem root_p {p : List Nat} {r : Nat} (h : r ∈ p) : Pl.val (Pl.prodR p) (Fld.to r) = 0 := by
  obtain ⟨i, hi, e⟩ := List.mem_iff_getElem.1 h
  refine (prodR_root p (Fld.to r)).2 ⟨i, hi, ?_⟩
  rw [Pl.co_at, List.getElem?_eq_getElem hi, e]; rfl
theorem root_mem {p : List Nat} {r : Nat} (hr : r < 2305843009213693951) (hp : ∀ x ∈ p, x < 2305843009213693951) (h : Pl.val (Pl.prodR p) (Fld.to r) = 0) : r ∈ p := by
  obtain ⟨i, hi, e⟩ := (prodR_root p (Fld.to r)).1 h
  rw [Pl.co_at, List.getElem?_eq_getElem hi] at e
  have h2 : r = p[i] := Fld.to_inj hr (hp _ (List.getElem_mem hi)) e
  rw [h2]; exact List.getElem_mem hi

/-- What has all of some unlike roots is divided by their product. -/
theorem dv_roots : ∀ (p : List Nat) (s : Pl), Pl.Po s → (∀ x ∈ p, x < 2305843009213693951) → p.Pairwise (· < ·) → (∀ r ∈ p, Pl.val s (Fld.to r) = 0) → Pl.Dv (Pl.prodR p) s
  | [], s, hs, _, _, _ => ⟨s, hs, (Pl.one_mul s).symm⟩
  | r :: p, s, hs, hb, hp, h => by
    obtain ⟨q, hq, e⟩ := (Pl.dv_lin hs (Fld.to r)).2 (h r List.mem_cons_self)
    rw [List.pairwise_cons] at hp
    obtain ⟨t, ht, e2⟩ := dv_roots p q hq (fun x hx => hb x (List.mem_cons_of_mem _ hx)) hp.2 (fun y hy => by
      have h1 := h y (List.mem_cons_of_mem _ hy)
      rw [e, Pl.val_mul (Pl.Po.lin _) hq, Fld.mul_eq_zero, Pl.val_lin] at h1
      rcases h1 with h1 | h1
      · have h2 : Fld.to y = Fld.to r := by grind
        have h3 := Fld.to_inj (hb y (List.mem_cons_of_mem _ hy)) (hb r List.mem_cons_self) h2
        have h4 := hp.1 y hy
        omega
      · exact h1)
    refine ⟨t, ht, ?_⟩
    show s = Pl.lin (Fld.to r) * Pl.prodR p * t
    rw [e, e2, Pl.mul_assoc]

theorem Fit.lp {a b : List Nat} {na nb : Nat} {p q : List Nat} (h : Fit a b na nb p q) : ∀ x ∈ p, x < 2305843009213693951 := fun x hx => by have := h.ep x hx; omega
theorem Fit.lq {a b : List Nat} {na nb : Nat} {p q : List Nat} (h : Fit a b na nb p q) : ∀ x ∈ q, x < 2305843009213693951 := fun x hx => by have := h.eq x hx; omega

/-- What solves the equations goes as the lists that fit. -/
theorem sol_cross {a b : List Nat} {na nb : Nat} {p q : List Nat} {dF dG : Nat} {f g : Pl} (h : Fit a b na nb p q) (hn : a.length ≤ 1000000) (ha : ∀ k, k < a.length → Pl.co a k ≠ 0)
    (hf : Pl.Dg f dF) (hg : Pl.Dg g dG) (hd : dF + q.length = dG + p.length) (h2 : dF + dG + 2 ≤ a.length)
    (hv : ∀ k, k < a.length → Pl.co b k * Pl.val f (Fld.to (pt k)) = Pl.co a k * Pl.val g (Fld.to (pt k))) : f * Pl.prodR q = g * Pl.prodR p := by
  have dP := (Pl.Dg.prodR p).1
  have dQ := (Pl.Dg.prodR q).1
  have hfew := h.few
  have l1 : Pl.Lt (f * Pl.prodR q) a.length := (hf.mul dQ).2.mono (by omega)
  have l2 : Pl.Lt (g * Pl.prodR p) a.length := (hg.mul dP).2.mono (by omega)
  refine Pl.sub_eq_zero (Pl.zeros_eq (pts_dis hn) (l1.sub l2) fun k hk => ?_)
  rw [Pl.co_tab, if_pos hk, Pl.val_sub (hf.po.mul (Pl.Po.prodR q)) (hg.po.mul (Pl.Po.prodR p)), Pl.val_mul hf.po (Pl.Po.prodR q), Pl.val_mul hg.po (Pl.Po.prodR p)]
  have e1 := h.vals k hk
  have e2 := hv k hk
  have e3 := ha k hk
  have e4 : Pl.co a k * (Pl.val f (Fld.to (pt k)) * Pl.val (Pl.prodR q) (Fld.to (pt k)) - Pl.val g (Fld.to (pt k)) * Pl.val (Pl.prodR p) (Fld.to (pt k))) = 0 := by grind
  rcases Fld.mul_eq_zero.1 e4 with e5 | e5
  · exact absurd e5 e3
  · exact e5

/-- The quotient's two polynomials: of no greater degrees than may be, without a common root, and those of the lists that fit, if there are any. -/
structure Quo (a b : List Nat) (na nb : Nat) (f g : Pl) (m1 m2 : Nat) : Prop where
  df : Pl.Dg f m1
  dg : Pl.Dg g m2
  few : m1 + m2 + 2 ≤ a.length
  more : m1 + nb = m2 + na
  ap : ∀ x, ¬ (Pl.val f x = 0 ∧ Pl.val g x = 0)
  fits : ∀ p q, Fit a b na nb p q → f = Pl.prodR p ∧ g = Pl.prodR q

theorem quo_of {a b : List Nat} {na nb dF dG : Nat} {F G c f g : Pl} (hn : a.length ≤ 1000000) (ha : ∀ k, k < a.length → Pl.co a k ≠ 0)
    (hF : Pl.Dg F dF) (hG : Pl.Dg G dG) (oF : F dF = 1) (h2 : dF + dG + 2 ≤ a.length) (hm : dF + nb = dG + na)
    (hv : ∀ k, k < a.length → Pl.co b k * Pl.val F (Fld.to (pt k)) = Pl.co a k * Pl.val G (Fld.to (pt k)))
    (hc : Pl.Gc F G c) (hf : Pl.Po f) (hg : Pl.Po g) (eF : F = c * f) (eG : G = c * g) : ∃ m1 m2, Quo a b na nb f g m1 m2 ∧ m1 ≤ dF ∧ m2 ≤ dG := by
  have c0 : c ≠ 0 := fun e => hF.ne (by rw [eF, e, Pl.zero_mul])
  have f0 : f ≠ 0 := fun e => hF.ne (by rw [eF, e, Pl.mul_zero])
  have g0 : g ≠ 0 := fun e => hG.ne (by rw [eG, e, Pl.mul_zero])
  obtain ⟨dc, hdc⟩ := hc.1.dg c0
  obtain ⟨m1, h1⟩ := hf.dg f0
  obtain ⟨m2, h3⟩ := hg.dg g0
  have eF1 : dF = dc + m1 := hF.uniq (by rw [eF]; exact hdc.mul h1)
  have eG1 : dG = dc + m2 := hG.uniq (by rw [eG]; exact hdc.mul h3)
  have oc : c dc = 1 := hc.2.2 dc hdc
  have of : f m1 = 1 := by
    have := Pl.top_mul hdc.2 h1.2
    rw [← eF, ← eF1, oF, oc] at this
    grind
  have unit : ∀ e : Pl, Pl.Po e → e ≠ 0 → Pl.Dv e f → Pl.Dv e g → Pl.Dg e 0 := fun e he e0 k1 k2 => by
    obtain ⟨s, hs, es⟩ := k1
    obtain ⟨t, ht, et⟩ := k2
    have hd : Pl.Dv (c * e) c := (hc.2.1 (c * e) (hc.1.mul he)).2 ⟨⟨s, hs, by rw [eF, es, Pl.mul_assoc]⟩, ⟨t, ht, by rw [eG, et, Pl.mul_assoc]⟩⟩
    obtain ⟨de, hde⟩ := he.dg e0
    have := hd.dg (hdc.mul hde) hdc
    have : de = 0 := by omega
    rw [this] at hde
    exact hde
  refine ⟨m1, m2, ⟨h1, h3, by omega, by omega, fun x hx => ?_, fun p q hfit => ?_⟩, by omega, by omega⟩
  · have := unit (Pl.lin x) (Pl.Po.lin x) (Pl.Dg.lin x).ne ((Pl.dv_lin hf x).2 hx.1) ((Pl.dv_lin hg x).2 hx.2)
    have := (Pl.Dg.lin x).uniq this
    omega
  · have hmore := hfit.more
    have hX := sol_cross hfit hn ha hF hG (by omega) h2 hv
    rw [eF, eG, Pl.mul_assoc, Pl.mul_assoc] at hX
    have hY : f * Pl.prodR q = g * Pl.prodR p := Pl.mul_cancel hc.1 (hf.mul (Pl.Po.prodR q)) (hg.mul (Pl.Po.prodR p)) c0 hX
    have hroots : ∀ r ∈ p, Pl.val f (Fld.to r) = 0 := fun r hr => by
      have e1 := congrArg (fun s => Pl.val s (Fld.to r)) hY
      simp only [Pl.val_mul hf (Pl.Po.prodR q), Pl.val_mul hg (Pl.Po.prodR p)] at e1
      rw [root_p hr, Fin.mul_zero] at e1
      rcases Fld.mul_eq_zero.1 e1 with e2 | e2
      · exact e2
      · exact absurd (root_mem (hfit.lp r hr) hfit.lq e2) (hfit.ap r hr)
    obtain ⟨H, hH, eH⟩ := dv_roots p f hf hfit.lp hfit.up hroots
    have hP0 := (Pl.Dg.prodR p).1.ne
    have eg : g = Pl.prodR q * H := by
      refine (Pl.mul_cancel (Pl.Po.prodR p) ((Pl.Po.prodR q).mul hH) hg hP0 ?_).symm
      rw [Pl.mul_comm _ g, ← hY, eH, Pl.mul_assoc, Pl.mul_comm H]
    have H0 : H ≠ 0 := fun e => f0 (by rw [eH, e, Pl.mul_zero])
    have hu := unit H hH H0 ⟨Pl.prodR p, Pl.Po.prodR p, by rw [eH, Pl.mul_comm]⟩ ⟨Pl.prodR q, Pl.Po.prodR q, by rw [eg, Pl.mul_comm]⟩
    have dP := Pl.Dg.prodR p
    have em : m1 = p.length + 0 := h1.uniq (by rw [eH]; exact dP.1.mul hu)
    have o1 : H 0 = 1 := by
      have := Pl.top_mul dP.1.2 hu.2
      rw [← eH, ← em, of, dP.2] at this
      grind
    have hC : H = Pl.C 1 := Pl.ext fun i => by
      cases i with
      | zero => rw [o1]; rfl
      | succ i => rw [hu.2 (i + 1) (by omega)]; rfl
    exact ⟨by rw [eH, hC, Pl.mul_one], by rw [eg, hC, Pl.mul_one]⟩

end Sk
end Go.Proofs.Ytcbcmnbfflaicaa
