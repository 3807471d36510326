/-
  Shares, without any program: which lists tell, and what they tell; a secret's shares; one too few; two rows added. No condition but what is said.
-/
import Derived.Test.YthnbkbmhlalpaaaJd
namespace Go.Proofs.Ythnbkbmhlalpaaa
open Go.RowKit

/-- A share: where it is, and its value. -/
structure Shr where
  a : Nat
  v : Nat
deriving DecidableEq

namespace Pl
theorem dis_congr {xs ys : List Nat} (h : co xs = co ys) (k : Nat) : Dis xs k ↔ Dis ys k := by unfold Dis; rw [h]
theorem fi_congr {xs ys zs : List Nat} (h : co xs = co ys) (n : Nat) (s : Pl) : Fi xs zs n s ↔ Fi ys zs n s := by unfold Fi; rw [h]
theorem dis_iff (xs : List Nat) : Dis xs xs.length ↔ (xs.map Fld.num).Nodup := by
  unfold List.Nodup
  rw [List.pairwise_iff_getElem]
  unfold Dis
  constructor
  · intro h i j hi hj hij e
    rw [List.length_map] at hi hj
    refine h i j hij hj ?_
    rw [co_at, co_at, List.getElem?_eq_getElem hi, List.getElem?_eq_getElem hj]
    rw [List.getElem_map, List.getElem_map] at e
    show Fld.to xs[i] = Fld.to xs[j]
    rw [← Fld.to_num, e, Fld.to_num]
  · intro h i j hij hj e
    have hi : i < xs.length := by omega
    rw [co_at, co_at, List.getElem?_eq_getElem hi, List.getElem?_eq_getElem hj] at e
    refine h i j (by rw [List.length_map]; exact hi) (by rw [List.length_map]; exact hj) hij ?_
    rw [List.getElem_map, List.getElem_map]
    refine Fld.to_inj (Fld.num_lt _) (Fld.num_lt _) ?_
    rw [Fld.to_num, Fld.to_num]
    exact e
theorem fr_of {xs : List Nat} {n : Nat} (ys : List Nat) (hd : Dis xs n) : ∀ k, k ≤ n → ∃ Z S, Fr xs ys k Z S
  | 0, _ => ⟨_, _, Fr.start xs ys⟩
  | k + 1, hk => by
    obtain ⟨Z, S, h⟩ := fr_of ys hd k (by omega)
    exact ⟨_, _, h.step fun hz => h.same (n := n) (by omega) hz hd⟩
theorem fi_of {xs : List Nat} {n : Nat} (ys : List Nat) (hd : Dis xs n) : ∃ s, Fi xs ys n s := by
  obtain ⟨Z, S, h⟩ := fr_of ys hd n (Nat.le_refl _)
  exact ⟨S, h.fi⟩
end Pl
theorem fxs_fi {xs ys : List Nat} (h : xs.length = ys.length) (hd : Pl.Dis xs xs.length) : Pl.Fi xs ys xs.length (fxs xs ys) := by
  obtain ⟨s, hs⟩ := Pl.fi_of ys hd
  rw [fxs_eq h hd hs]
  exact hs
theorem fxs_congr {xs xs' : List Nat} (ys : List Nat) (hl : xs.length = xs'.length) (hc : Pl.co xs = Pl.co xs') : fxs xs ys = fxs xs' ys := by
  by_cases h : xs.length = ys.length ∧ Pl.Dis xs xs.length
  · refine fxs_eq h.1 h.2 ?_
    have h2 : Pl.Dis xs' xs'.length := by rw [← hl]; exact (Pl.dis_congr hc _).1 h.2
    have h3 := fxs_fi (hl.symm.trans h.1) h2
    rw [hl]
    exact (Pl.fi_congr hc _ _).2 h3
  · rw [fxs_zero h, fxs_zero]
    intro h2
    refine h ⟨hl.trans h2.1, ?_⟩
    rw [hl]
    exact (Pl.dis_congr hc _).2 h2.2

namespace Sr
/-- Where they are, and their values. -/
def ats (l : List Shr) : List Nat := l.map Shr.a
def vs (l : List Shr) : List Nat := l.map Shr.v
def nums (l : List Shr) : List Nat := l.map fun s => Fld.num s.a
theorem ats_len (l : List Shr) : (ats l).length = l.length := by simp [ats]
theorem vs_len (l : List Shr) : (vs l).length = l.length := by simp [vs]
theorem nums_len (l : List Shr) : (nums l).length = l.length := by simp [nums]
theorem nums_ats (l : List Shr) : (ats l).map Fld.num = nums l := by simp [ats, nums]
/-- A list that tells: there is one, none is at 0, no two are at one place. -/
def Good (l : List Shr) : Prop := l ≠ [] ∧ 0 ∉ nums l ∧ (nums l).Nodup
/-- The polynomial of the least degree that has them all. -/
noncomputable def pol (l : List Shr) : Pl := fxs (ats l) (vs l)
theorem pol_nums (l : List Shr) : fxs (nums l) (vs l) = pol l := by
  refine fxs_congr _ (by rw [nums_len, ats_len]) ?_
  rw [← nums_ats, Pl.co_num]
/-- What At answers: a number, and which error. -/
noncomputable def tell (l : List Shr) (x : Nat) : Nat × Nat := open Classical in if Good l then (vl (pol l) x, 0) else (0, 29)
theorem tell_good {l : List Shr} (h : Good l) (x : Nat) : tell l x = (vl (pol l) x, 0) := if_pos h
theorem tell_bad {l : List Shr} (h : ¬ Good l) (x : Nat) : tell l x = (0, 29) := if_neg h
theorem tell_lt (l : List Shr) (x : Nat) : (tell l x).1 < 2305843009213693951 ∧ (tell l x).2 ≤ 29 := by
  by_cases h : Good l
  · rw [tell_good h]; exact ⟨vl_lt _ _, Nat.zero_le _⟩
  · rw [tell_bad h]; exact ⟨by decide, by decide⟩
theorem Good.dis {l : List Shr} (h : Good l) : Pl.Dis (ats l) l.length := by
  have h1 := (Pl.dis_iff (ats l)).2 (by rw [nums_ats]; exact h.2.2)
  rwa [ats_len] at h1
theorem Good.fi {l : List Shr} (h : Good l) : Pl.Fi (ats l) (vs l) l.length (pol l) := by
  have h1 := fxs_fi (xs := ats l) (ys := vs l) (by rw [ats_len, vs_len]) (by rw [ats_len]; exact h.dis)
  rwa [ats_len] at h1
theorem co_ats (l : List Shr) {j : Nat} (hj : j < l.length) : Pl.co (ats l) j = Fld.to l[j].a := by
  rw [Pl.co_at]; unfold ats; rw [List.getElem?_map, List.getElem?_eq_getElem hj]; rfl
theorem co_vs (l : List Shr) {j : Nat} (hj : j < l.length) : Pl.co (vs l) j = Fld.to l[j].v := by
  rw [Pl.co_at]; unfold vs; rw [List.getElem?_map, List.getElem?_eq_getElem hj]; rfl

/-- Shares of the polynomial p, at small places, each once. -/
def Of (p : Pl) (l : List Shr) : Prop := (∀ s ∈ l, 1 ≤ s.a ∧ s.a ≤ 1000000 ∧ s.v = vl p s.a) ∧ (ats l).Nodup
theorem num_small {x : Nat} (h : x ≤ 1000000) : Fld.num x = x := Nat.mod_eq_of_lt (by unfold Fld.P; omega)
theorem Of.good {p : Pl} {l : List Shr} (h : Of p l) (h0 : l ≠ []) : Good l := by
  have e : nums l = ats l := List.map_congr_left fun s hs => num_small (h.1 s hs).2.1
  refine ⟨h0, ?_, by rw [e]; exact h.2⟩
  rw [e]
  intro hm
  obtain ⟨s, hs, e1⟩ := List.mem_map.1 hm
  have := (h.1 s hs).1
  omega
/-- Enough shares tell their polynomial. -/
theorem Of.pol {p : Pl} {l : List Shr} {m : Nat} (h : Of p l) (hp : Pl.Lt p m) (hm : m ≤ l.length) (h0 : l ≠ []) : Sr.pol l = p := by
  refine Pl.Fi.uniq (h.good h0).dis (h.good h0).fi ⟨hp.mono hm, fun j hj => ?_⟩
  rw [co_ats l hj, co_vs l hj, (h.1 _ (List.getElem_mem hj)).2.2, to_vl]
theorem Of.tell {p : Pl} {l : List Shr} {m : Nat} (h : Of p l) (hp : Pl.Lt p m) (hm : m ≤ l.length) (h0 : l ≠ []) (x : Nat) : Sr.tell l x = (vl p x, 0) := by
  rw [tell_good (h.good h0), h.pol hp hm h0]

/-- The first n shares of the polynomial that f says. -/
def split (f : List Nat) (n : Nat) : List Shr := (List.range n).map fun i => ⟨i + 1, Pl.hv (i + 1) f⟩
theorem split_len (f : List Nat) (n : Nat) : (split f n).length = n := by simp [split]
theorem split_at (f : List Nat) (n : Nat) {i : Nat} (h : i < n) : (split f n)[i]? = some ⟨i + 1, Pl.hv (i + 1) f⟩ := by
  unfold split; rw [List.getElem?_map, List.getElem?_range h]; rfl
theorem split_get (f : List Nat) (n : Nat) {i : Nat} (h : i < (split f n).length) : (split f n)[i] = ⟨i + 1, Pl.hv (i + 1) f⟩ := by
  have h1 := split_at f n (i := i) (by rwa [split_len] at h)
  rw [List.getElem?_eq_getElem h] at h1
  injection h1
theorem split_succ (f : List Nat) (n : Nat) : split f (n + 1) = split f n ++ [⟨n + 1, Pl.hv (n + 1) f⟩] := by simp [split, List.range_succ]
theorem split_mem {f : List Nat} {n : Nat} {s : Shr} (h : s ∈ split f n) : 1 ≤ s.a ∧ s.a ≤ n ∧ s.v = vl (Pl.co f) s.a := by
  obtain ⟨i, hi, rfl⟩ := List.mem_map.1 h
  have := List.mem_range.1 hi
  exact ⟨Nat.le_add_left _ _, this, hv_vl _ _⟩
theorem split_ats (f : List Nat) (n : Nat) : ats (split f n) = (List.range n).map (· + 1) := by unfold ats split; rw [List.map_map]; rfl
theorem range_succ_nodup (n : Nat) : ((List.range n).map (· + 1)).Nodup := by
  unfold List.Nodup
  rw [List.pairwise_map]
  exact List.nodup_range.imp fun {a b} h e => h (by omega)

/-- Some of a list: at places that are told, each once. -/
def At (l : List Shr) (ks : List Nat) : List Shr := ks.map fun k => l[k]?.getD ⟨0, 0⟩
def Some (l : List Shr) (most : Nat) (L : List Shr) : Prop := ∃ ks : List Nat, ks.Nodup ∧ (∀ k ∈ ks, k < l.length) ∧ ks.length = min most l.length ∧ L = At l ks
theorem At_snoc (l : List Shr) (ks : List Nat) (k : Nat) : At l (ks ++ [k]) = At l ks ++ [l[k]?.getD ⟨0, 0⟩] := by simp [At]
theorem At_len (l : List Shr) (ks : List Nat) : (At l ks).length = ks.length := by simp [At]
theorem Some.len {l L : List Shr} {most : Nat} (h : Some l most L) : L.length = min most l.length := by
  obtain ⟨ks, _, _, h3, rfl⟩ := h
  rw [At_len, h3]
theorem at_mem {l : List Shr} {ks : List Nat} (h : ∀ k ∈ ks, k < l.length) {s : Shr} (hs : s ∈ At l ks) : s ∈ l := by
  obtain ⟨k, hk, rfl⟩ := List.mem_map.1 hs
  rw [List.getElem?_eq_getElem (h k hk)]
  exact List.getElem_mem _
theorem Some.mem {l L : List Shr} {most : Nat} (h : Some l most L) {s : Shr} (hs : s ∈ L) : s ∈ l := by
  obtain ⟨ks, _, h2, _, rfl⟩ := h
  exact at_mem h2 hs
/-- A row of shares at 1, 2, 3 .. of one polynomial. -/
def Row (p : Pl) (l : List Shr) : Prop := ∀ i, i < l.length → l[i]? = some ⟨i + 1, vl p (i + 1)⟩
theorem Row.split (f : List Nat) (n : Nat) : Row (Pl.co f) (split f n) := fun i hi => by
  rw [split_at f n (by rwa [split_len] at hi), hv_vl]
theorem Row.some {p : Pl} {l L : List Shr} {most : Nat} (h : Row p l) (hl : l.length ≤ 1000000) (hs : Some l most L) : Of p L := by
  obtain ⟨ks, h1, h2, h3, rfl⟩ := hs
  refine ⟨fun s hs => ?_, ?_⟩
  · obtain ⟨k, hk, rfl⟩ := List.mem_map.1 hs
    have := h2 k hk
    rw [h k this]
    exact ⟨Nat.le_add_left _ _, by show k + 1 ≤ _; omega, rfl⟩
  · unfold ats At
    rw [List.map_map]
    unfold List.Nodup
    rw [List.pairwise_map]
    refine (List.Pairwise.and_mem.1 h1).imp fun {a b} ⟨ha, hb, hab⟩ e => hab ?_
    simp only [Function.comp] at e
    rw [h a (h2 a ha), h b (h2 b hb)] at e
    have : a + 1 = b + 1 := e
    omega
theorem Of.rev {p : Pl} {l : List Shr} (h : Of p l) : Of p l.reverse := by
  refine ⟨fun s hs => h.1 s (List.mem_reverse.1 hs), ?_⟩
  unfold ats
  rw [List.map_reverse]
  exact List.pairwise_reverse.2 (h.2.imp fun {a b} hab => Ne.symm hab)

/-! ### the secret itself -/
theorem val_at_zero {p : Pl} (h : Pl.Po p) : Pl.val p 0 = p 0 := by
  have ht : Pl.Po (Pl.tl p) := by
    obtain ⟨n, hn⟩ := h
    exact ⟨n, fun i hi => hn (i + 1) (by omega)⟩
  have e := Pl.parts p
  have h1 : Pl.val (Pl.C (p 0) + Pl.sh (Pl.tl p)) 0 = p 0 := by
    rw [Pl.val_add (Pl.Po.C _) ht.sh, Pl.val_C, Pl.val_sh ht]
    grind
  rwa [← e] at h1
theorem vl_zero_at (a : Nat) (c : List Nat) : vl (Pl.co (a :: c)) 0 = Fld.num a := by
  refine Fld.to_inj (vl_lt _ _) (Fld.num_lt _) ?_
  rw [to_vl, Fld.to_num]
  exact val_at_zero (Pl.Po.co _)
theorem vl_add {s t : Pl} (hs : Pl.Po s) (ht : Pl.Po t) (x : Nat) : vl (s + t) x = Fld.add (vl s x) (vl t x) := by
  refine Fld.to_inj (vl_lt _ _) (Fld.add_lt _ _) ?_
  rw [to_vl, Pl.val_add hs ht, Fld.to_addF, to_vl, to_vl]

/-! ### one share too few -/
theorem few_dis {p : Pl} {l : List Shr} (h : Of p l) : Pl.Dis (0 :: ats l) (l.length + 1) := by
  have e : nums l = ats l := List.map_congr_left fun s hs => num_small (h.1 s hs).2.1
  have h1 := (Pl.dis_iff (0 :: ats l)).2 (by
    rw [List.map_cons, nums_ats, e]
    refine List.nodup_cons.2 ⟨fun hm => ?_, h.2⟩
    obtain ⟨s, hs, e1⟩ := List.mem_map.1 hm
    have := (h.1 s hs).1
    have e2 : s.a = 0 := e1
    omega)
  rwa [List.length_cons, ats_len] at h1
theorem few_fi {p : Pl} {l : List Shr} (h : Of p l) (o : Nat) : Pl.Fi (0 :: ats l) (o :: vs l) (l.length + 1) (fxs (0 :: ats l) (o :: vs l)) := by
  have h1 := fxs_fi (xs := 0 :: ats l) (ys := o :: vs l) (by simp [ats_len, vs_len]) (by rw [List.length_cons, ats_len]; exact few_dis h)
  rwa [List.length_cons, ats_len] at h1
/-- Another secret has just these shares. -/
theorem few_other {p : Pl} {l : List Shr} (h : Of p l) (o : Nat) (L : List Nat) (hL : Pl.Is L (fxs (0 :: ats l) (Fld.num o :: vs l))) {n : Nat} (hn : ∀ s ∈ l, s.a ≤ n) :
    ∀ s ∈ l, ∃ k, k < n ∧ (split (o :: L.drop 1) n)[k]? = some s := by
  have hf := few_fi h (Fld.num o)
  obtain ⟨q, hq⟩ : ∃ q, q = fxs (0 :: ats l) (Fld.num o :: vs l) := ⟨_, rfl⟩
  rw [← hq] at hf hL
  have h0 : q 0 = Fld.to o := by
    have h1 := hf.2 0 (Nat.succ_pos _)
    have h2 : Pl.val q 0 = Fld.to (Fld.num o) := h1
    rw [val_at_zero ⟨_, hf.1⟩, Fld.to_num] at h2
    exact h2
  have hc : Pl.co (o :: L.drop 1) = q := Pl.ext fun i => by
    cases i with
    | zero => rw [h0]; rfl
    | succ j =>
      rw [← hL.2, Pl.co_at, Pl.co_at, List.getElem?_cons_succ, List.getElem?_drop, Nat.add_comm 1 j]
  intro s hs
  obtain ⟨j, hj, e⟩ := List.mem_iff_getElem.1 hs
  have hs1 := h.1 s hs
  have hsn := hn s hs
  refine ⟨s.a - 1, by omega, ?_⟩
  rw [split_at _ _ (by omega), hv_vl, hc]
  have h3 := hf.2 (j + 1) (by omega)
  have h4 : Pl.val q (Pl.co (ats l) j) = Pl.co (vs l) j := h3
  rw [co_ats l hj, co_vs l hj, e] at h4
  have h5 : vl q s.a = s.v := by
    refine Fld.to_inj (vl_lt _ _) (by rw [hs1.2.2]; exact vl_lt _ _) ?_
    rw [to_vl]
    exact h4
  have h6 : s.a - 1 + 1 = s.a := by omega
  rw [h6, h5]

/-! ### an old share beside new ones -/
theorem mixed_zero {s t : Pl} {n a : Nat} (hs : Pl.Lt s (n + 1)) (ht : Pl.Lt t (n + 1)) (ha : vl s 0 = a) (ht0 : vl t 0 = 0) (l : List Shr) (hn : n ≤ 1000) (hl : l.length = n + 1)
    (h0 : l[0]? = some ⟨1, vl s 1⟩) (h1 : ∀ j, j < n → l[j + 1]? = some ⟨j + 2, vl (s + t) (j + 2)⟩) : Good l ∧ (vl (pol l) 0 = a ↔ vl t 1 = 0) := by
  have hat : ats l = (List.range (n + 1)).map (· + 1) := by
    refine List.ext_getElem (by rw [ats_len, List.length_map, List.length_range, hl]) fun i hi _ => ?_
    rw [ats_len, hl] at hi
    have e : l[i]? = some ⟨i + 1, (l[i]'(by omega)).v⟩ := by
      cases i with
      | zero => rw [h0, List.getElem_eq_getElem?_get]; simp [h0]
      | succ j => rw [h1 j (by omega), List.getElem_eq_getElem?_get]; simp [h1 j (by omega)]
    have e2 : l[i]'(by omega) = ⟨i + 1, (l[i]'(by omega)).v⟩ := by
      rw [List.getElem?_eq_getElem (by omega)] at e
      injection e
    simp only [ats, List.getElem_map, List.getElem_range]
    rw [e2]
  have hne : l ≠ [] := by intro e; rw [e] at hl; cases hl
  have hnum : nums l = ats l := List.map_congr_left fun s hs => num_small (by
    have hm : s.a ∈ ats l := List.mem_map.2 ⟨s, hs, rfl⟩
    rw [hat] at hm
    obtain ⟨i, hi, e⟩ := List.mem_map.1 hm
    have := List.mem_range.1 hi
    omega)
  have hg : Good l := ⟨hne, by
    rw [hnum, hat]
    intro hm
    obtain ⟨i, _, e⟩ := List.mem_map.1 hm
    omega, by rw [hnum, hat]; exact range_succ_nodup _⟩
  refine ⟨hg, ?_⟩
  have hf := hg.fi
  rw [hl] at hf
  have hco : ∀ j, j < n + 1 → Pl.co (ats l) j = Fld.to (j + 1) := fun j hj => by
    rw [hat, Pl.co_at, List.getElem?_map, List.getElem?_range hj]; rfl
  have hcv0 : Pl.co (vs l) 0 = Pl.val s (Fld.to 1) := by
    rw [Pl.co_at]; unfold vs; rw [List.getElem?_map, h0]
    exact to_vl s 1
  have hcv : ∀ j, j < n → Pl.co (vs l) (j + 1) = Pl.val (s + t) (Fld.to (j + 2)) := fun j hj => by
    rw [Pl.co_at]; unfold vs; rw [List.getElem?_map, h1 j hj]
    exact to_vl (s + t) (j + 2)
  have hlq : Pl.Lt (pol l - (s + t)) (n + 1) := hf.1.sub (hs.add ht)
  have hval : ∀ x, Pl.val (pol l - (s + t)) x = Pl.val (pol l) x - (Pl.val s x + Pl.val t x) := fun x => by
    rw [Pl.val_sub ⟨_, hf.1⟩ ⟨_, hs.add ht⟩, Pl.val_add ⟨_, hs⟩ ⟨_, ht⟩]
  have hq1 : Pl.val (pol l - (s + t)) (Fld.to 1) = 0 - Pl.val t (Fld.to 1) := by
    have h2 := hf.2 0 (by omega)
    rw [hco 0 (by omega), hcv0] at h2
    rw [hval, h2]
    grind
  have hqj : ∀ j, j < n → Pl.val (pol l - (s + t)) (Fld.to (j + 2)) = 0 := fun j hj => by
    have h2 := hf.2 (j + 1) (by omega)
    rw [hco (j + 1) (by omega), hcv j hj, Pl.val_add ⟨_, hs⟩ ⟨_, ht⟩] at h2
    rw [hval, h2]
    grind
  have hs0 : Pl.val s 0 = Fld.to a := by rw [← ha, to_vl]; rfl
  have ht00 : Pl.val t 0 = 0 := by
    have := to_vl t 0
    rw [ht0] at this
    exact this.symm
  have hq0 : Pl.val (pol l - (s + t)) 0 = Pl.val (pol l) 0 - Fld.to a := by
    rw [hval, hs0, ht00]
    grind
  have hal : a < 2305843009213693951 := by rw [← ha]; exact vl_lt _ _
  constructor
  · intro h
    have hz : Pl.val (pol l - (s + t)) 0 = 0 := by
      rw [hq0, ← h, to_vl]
      have e : Pl.val (pol l) (Fld.to 0) = Pl.val (pol l) 0 := rfl
      rw [e]
      grind
    have hd : Pl.Dis (0 :: (List.range n).map (· + 2)) (n + 1) := by
      have h3 := (Pl.dis_iff (0 :: (List.range n).map (· + 2))).2 (by
        have e : (0 :: (List.range n).map (· + 2)).map Fld.num = 0 :: (List.range n).map (· + 2) := by
          rw [List.map_cons, List.map_map]
          congr 1
          refine List.map_congr_left fun i hi => ?_
          have := List.mem_range.1 hi
          exact num_small (by show i + 2 ≤ 1000000; omega)
        rw [e]
        refine List.nodup_cons.2 ⟨fun hm => ?_, ?_⟩
        · obtain ⟨i, _, e⟩ := List.mem_map.1 hm
          omega
        · unfold List.Nodup
          rw [List.pairwise_map]
          exact List.nodup_range.imp fun {a b} h e => h (by omega))
      rwa [List.length_cons, List.length_map, List.length_range] at h3
    have hq := Pl.zeros_eq hd hlq fun j hj => by
      cases j with
      | zero => exact hz
      | succ i =>
        have e : Pl.co (0 :: (List.range n).map (· + 2)) (i + 1) = Fld.to (i + 2) := by
          rw [Pl.co_at, List.getElem?_cons_succ, List.getElem?_map, List.getElem?_range (by omega)]; rfl
        rw [e]
        exact hqj i (by omega)
    rw [hq, Pl.val_zero] at hq1
    refine (vl_zero t 1).2 ?_
    grind
  · intro h
    have h2 := (vl_zero t 1).1 h
    have hq := Pl.zeros_eq hg.dis (by rw [hl]; exact hlq) fun j hj => by
      rw [hl] at hj
      rw [hco j hj]
      cases j with
      | zero => rw [hq1, h2]; exact Fld.sub_zero 0
      | succ i => exact hqj i (by omega)
    rw [hq, Pl.val_zero] at hq0
    refine Fld.to_inj (vl_lt _ _) hal ?_
    rw [to_vl]
    have e : Pl.val (pol l) (Fld.to 0) = Pl.val (pol l) 0 := rfl
    rw [e]
    grind
end Sr
end Go.Proofs.Ythnbkbmhlalpaaa
