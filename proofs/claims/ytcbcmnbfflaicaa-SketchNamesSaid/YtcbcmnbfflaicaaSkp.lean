/-
  The statements' Set, Only, union and rises: up to 12 unlike elements made of numbers; what only the first one of two sets has, rising; both together; whether a list rises. What was there is left as it was.
-/
import Derived.Test.YtcbcmnbfflaicaaSko
import Derived.BigQuiet
namespace Go.Proofs.Ytcbcmnbfflaicaa
open Go.RowKit

/-! ### without any program -/
/-- The element that is made of a number. -/
def elt (x : Nat) : Nat := if x % 7 = 5 then 1152921504606846976 - x % 9 else if x % 7 = 3 then 1 + x % 1152921504606846976 else 1 + x % 30
theorem elt_el (x : Nat) : 1 ≤ elt x ∧ elt x ≤ 1152921504606846976 := by
  unfold elt
  split
  · omega
  · split <;> omega
/-- A number more, if it is not there. -/
def stp (out : List Nat) (x : Nat) : List Nat := if x ∈ out then out else out ++ [x]
theorem mem_stp {out : List Nat} {x y : Nat} : y ∈ stp out x ↔ y ∈ out ∨ y = x := by
  unfold stp
  split
  · rename_i h
    constructor
    · exact .inl
    · rintro (h1 | rfl)
      · exact h1
      · exact h
  · rw [List.mem_append, List.mem_singleton]
theorem nodup_stp {out : List Nat} {x : Nat} (h : out.Nodup) : (stp out x).Nodup := by
  unfold stp
  split
  · exact h
  · rename_i hn
    rw [List.nodup_append]
    refine ⟨h, by simp, ?_⟩
    intro a ha b hb e
    rw [List.mem_singleton] at hb
    subst hb e
    exact hn ha
theorem len_stp (out : List Nat) (x : Nat) : (stp out x).length ≤ out.length + 1 := by
  unfold stp
  split
  · omega
  · rw [List.length_append, List.length_singleton]; exact Nat.le_refl _
/-- The first so many, one behind the other, each once. -/
def stk (out l : List Nat) : Nat → List Nat
  | 0 => out
  | k + 1 => stp (stk out l k) (l[k]?.getD 0)
theorem stk_nodup {out l : List Nat} (h : out.Nodup) : ∀ k, (stk out l k).Nodup
  | 0 => h
  | k + 1 => nodup_stp (stk_nodup h k)
theorem stk_len (out l : List Nat) : ∀ k, (stk out l k).length ≤ out.length + k
  | 0 => Nat.le_refl _
  | k + 1 => by have := stk_len out l k; have := len_stp (stk out l k) (l[k]?.getD 0); show (stp _ _).length ≤ _; omega
theorem stk_mem {out l : List Nat} {x : Nat} : ∀ k, k ≤ l.length → (x ∈ stk out l k ↔ x ∈ out ∨ x ∈ l.take k)
  | 0, _ => by simp [stk]
  | k + 1, h => by
    show x ∈ stp _ _ ↔ _
    rw [mem_stp, stk_mem k (by omega), take_snoc (by omega), List.mem_append, List.mem_singleton, or_assoc]
/-- A set, made of numbers. -/
def setf (l : List Nat) : List Nat := stk [] (l.map elt) (min 12 l.length)
theorem setf_nodup (l : List Nat) : (setf l).Nodup := stk_nodup List.nodup_nil _
theorem setf_len (l : List Nat) : (setf l).length ≤ 12 := by
  have := stk_len [] (l.map elt) (min 12 l.length)
  unfold setf
  simp at this ⊢
  omega
theorem setf_el (l : List Nat) : El (setf l) := fun x hx => by
  unfold setf at hx
  rw [stk_mem _ (by rw [List.length_map]; omega)] at hx
  rcases hx with h | h
  · cases h
  · obtain ⟨y, _, rfl⟩ := List.mem_map.1 (List.mem_of_mem_take h)
    exact elt_el y
/-- Both sets together. -/
def uni (a b : List Nat) : List Nat := stk a b b.length
theorem uni_nodup {a b : List Nat} (h : a.Nodup) : (uni a b).Nodup := stk_nodup h _
theorem uni_len (a b : List Nat) : (uni a b).length ≤ a.length + b.length := stk_len a b _
theorem uni_mem {a b : List Nat} {x : Nat} : x ∈ uni a b ↔ x ∈ a ∨ x ∈ b := by unfold uni; rw [stk_mem _ (Nat.le_refl _), List.take_length]
/-- What only the first one has, of its first so many, rising. -/
structure Onl (a b : List Nat) (i : Nat) (L : List Nat) : Prop where
  up : L.Pairwise (· < ·)
  mem : ∀ x, x ∈ L ↔ x ∈ a.take i ∧ x ∉ b
theorem Onl.start (a b : List Nat) : Onl a b 0 [] := ⟨List.Pairwise.nil, fun x => by simp⟩
theorem Onl.skip {a b L : List Nat} {i : Nat} (h : Onl a b i L) (hi : i < a.length) (hb : a[i]?.getD 0 ∈ b) : Onl a b (i + 1) L := ⟨h.up, fun x => by
  rw [h.mem, take_snoc hi, List.mem_append, List.mem_singleton]
  constructor
  · exact fun h => ⟨.inl h.1, h.2⟩
  · rintro ⟨h1 | h1, h2⟩
    · exact ⟨h1, h2⟩
    · subst h1; exact absurd hb h2⟩
theorem Onl.put {a b L : List Nat} {i k x : Nat} (h : Onl a b i L) (hn : a.Nodup) (hi : i < a.length) (hx : x = a[i]?.getD 0) (hb : x ∉ b) (hk : k ≤ L.length) (h1 : ∀ j, j < k → L[j]?.getD 0 < x) (h2 : k < L.length → ¬ L[k]?.getD 0 < x) : Onl a b (i + 1) (L.take k ++ [x] ++ L.drop k) := by
  have hxa : x ∉ a.take i := fun hm => by
    have h3 : (a.take (i + 1)).Nodup := List.Nodup.sublist (List.take_sublist _ _) hn
    rw [take_snoc hi, List.nodup_append] at h3
    exact h3.2.2 x hm (a[i]?.getD 0) (by simp) hx
  have hxL : x ∉ L := fun hm => hxa ((h.mem x).1 hm).1
  have hgt : ∀ y ∈ L.drop k, x < y := fun y hy => by
    rw [mem_getD] at hy
    obtain ⟨j, hj, e⟩ := hy
    rw [List.length_drop] at hj
    rw [List.getElem?_drop] at e
    have hk2 : k < L.length := by omega
    have h3 := h2 hk2
    have h4 : L[k]?.getD 0 ≠ x := fun e => hxL (mem_getD.2 ⟨k, hk2, e⟩)
    rcases Nat.eq_zero_or_pos j with h5 | h5
    · subst h5
      rw [Nat.add_zero] at e
      omega
    · have := rise_lt h.up (i := k) (j := k + j) (by omega) (by omega)
      omega
  have hlt : ∀ y ∈ L.take k, y < x := fun y hy => by
    rw [mem_getD] at hy
    obtain ⟨j, hj, e⟩ := hy
    rw [List.length_take] at hj
    rw [List.getElem?_take, if_pos (by omega)] at e
    have := h1 j (by omega)
    omega
  refine ⟨?_, fun y => ?_⟩
  · rw [List.append_assoc, List.pairwise_append]
    refine ⟨List.Pairwise.sublist (List.take_sublist _ _) h.up, ?_, fun y hy z hz => ?_⟩
    · rw [List.singleton_append, List.pairwise_cons]
      exact ⟨hgt, List.Pairwise.sublist (List.drop_sublist _ _) h.up⟩
    · rw [List.mem_append, List.mem_singleton] at hz
      rcases hz with rfl | hz
      · exact hlt y hy
      · exact Nat.lt_trans (hlt y hy) (hgt z hz)
  · have e : y ∈ L.take k ++ [x] ++ L.drop k ↔ y ∈ L ∨ y = x := by
      conv => rhs; rw [← List.take_append_drop k L]
      simp only [List.mem_append, List.mem_singleton]
      constructor
      · rintro ((h | h) | h)
        · exact .inl (.inl h)
        · exact .inr h
        · exact .inl (.inr h)
      · rintro ((h | h) | h)
        · exact .inl (.inl h)
        · exact .inr h
        · exact .inl (.inr h)
    rw [e, h.mem, take_snoc hi, List.mem_append, List.mem_singleton, ← hx]
    constructor
    · rintro (h | rfl)
      · exact ⟨.inl h.1, h.2⟩
      · exact ⟨.inr rfl, hb⟩
    · rintro ⟨h | h, h'⟩
      · exact .inl ⟨h, h'⟩
      · exact .inr h
theorem Onl.uniq {a b L L' : List Nat} {i : Nat} (h : Onl a b i L) (h' : Onl a b i L') : L = L' := rise_uniq L L' h.up h'.up fun x => (h.mem x).trans (h'.mem x).symm
theorem sub_len {xs L : List Nat} (hn : xs.Nodup) (hs : ∀ x ∈ xs, x ∈ L) (hb : ∀ x ∈ L, x < 2305843009213693951) : xs.length ≤ L.length := by
  have h := Pl.roots_le L.length (Pl.prodR L) (Pl.Dg.prodR L).1 (xs.map Fld.to) ?_ ?_
  · rwa [List.length_map] at h
  · rw [List.nodup_iff_pairwise_ne, List.pairwise_map]
    refine (List.Pairwise.and_mem.1 hn).imp ?_
    rintro a b ⟨ha, hb', hne⟩ e
    exact hne (Fld.to_inj (hb a (hs a ha)) (hb b (hs b hb')) e)
  · intro x hx
    obtain ⟨y, hy, rfl⟩ := List.mem_map.1 hx
    exact Sk.root_p (hs y hy)
theorem Onl.nodup {a b L : List Nat} {i : Nat} (h : Onl a b i L) : L.Nodup := h.up.imp fun h => Nat.ne_of_lt h

/-! ### walks -/
set_option maxRecDepth 100000 in
set_option maxHeartbeats 4000000 in
theorem set_any (l : List Nat) (A : Option Addr) (n c : Nat) (w : World) (hp : Pt w A n c l) (hl : ∀ y ∈ l, y < 18446744073709551616) :
    Calls Try.prog 11 #[.slice A n c] w fun e w' => (∃ z, e = .returned z ∧ Gl w.heap.size w' z (setf l)) ∧ Below w.heap.size w w' := by
  have HP := Lib.hid hp
  have HN := Lib.hid hp.1
  have HL := Lib.hid hl
  have hg0 := Gl.nil w.heap.size w
  have HG0 := Lib.hid hg0
  obtain ⟨m, hm⟩ : ∃ m, m = min 12 n := ⟨_, rfl⟩
  have hm12 : m ≤ 12 := by omega
  have hmn : m ≤ n := by omega
  have HM := Lib.hid hm
  clear hp hl hg0 hm
  go_enter Try.func11, Try.ntmps11
  go_wp2
  go_loopw [3, 4] (fun o i wr => ∃ k : Nat, k ≤ m ∧ i = .int .i64 (k : Int) ∧ Gl w.heap.size wr o (stk [] (l.map elt) k) ∧ Below w.heap.size w wr) (fun _ i _ => m - (intOf i).toNat)
  case atStart => exact ⟨0, Nat.zero_le _, rfl, HG0.out, Below.refl _ _⟩
  case round =>
    obtain ⟨k, hk, rfl, hg, hbr⟩ := hrel
    have hsz := hbr.size
    obtain ⟨S, hS⟩ : ∃ S, S = stk [] (l.map elt) k := ⟨_, rfl⟩
    rw [← hS] at hg
    have hSl : S.length ≤ 12 := by
      have h := stk_len [] (l.map elt) k
      rw [← hS] at h
      simp at h
      omega
    have HG := Lib.hid hg
    have HS := Lib.hid hS
    clear hg hS
    by_cases hlt : k < m
    · have hkn : k < n := by omega
      obtain ⟨b, off, rfl, hbb, hc0⟩ := HP.out.at_ hkn
      have hc := (hbr.cell (p := ⟨b, off + k, none⟩) hbb).trans hc0
      have hyl := get_big HL.out k
      obtain ⟨y, hy⟩ : ∃ y, y = l[k]?.getD 0 := ⟨_, rfl⟩
      rw [← hy] at hc hyl
      have hey : (l.map elt)[k]?.getD 0 = elt y := by
        rw [List.getElem?_map, hy, List.getElem?_eq_getElem (by have := HN.out; omega)]; rfl
      have hstk : stk [] (l.map elt) (k + 1) = stp S (elt y) := by rw [HS.out, ← hey]; rfl
      have q0 : (0 : Int) ≤ (k : Int) := by omega
      have q1 : (k : Int) < (n : Int) := by omega
      have q2 : (k : Int) < 12 := by omega
      obtain ⟨Ao, co, rfl, hpo, -⟩ := HG.out.pt
      obtain ⟨x, hx⟩ : ∃ x, x = elt y := ⟨_, rfl⟩
      rw [← hx] at hstk
      have hxl : x < 18446744073709551616 := by have := elt_el y; omega
      have hhas := has_any S Ao S.length co x wr hpo (by omega)
      obtain ⟨r, hr⟩ : ∃ r : Bool, r = decide (x ∈ S) := ⟨_, rfl⟩
      rw [← hr] at hhas
      obtain ⟨sl, hsl⟩ : ∃ sl, sl = S.length := ⟨_, rfl⟩
      rw [← hsl] at hhas hSl ⊢
      have HH := Lib.hid hhas
      have HST := Lib.hid hstk
      have HR := Lib.hid hr
      have HSL := Lib.hid hsl
      have HX := Lib.hid hx
      have hgo : Gl w.heap.size wr (.slice Ao sl co) S := by rw [HSL.out]; exact HG.out
      have HGO := Lib.hid hgo
      clear hhas hstk hr hsl hpo hy hey hc0 hgo hx
      by_cases h5 : y % 7 = 5
      · have d5 : (y : Int) % 7 = 5 := by omega
        have e5 : (1152921504606846976 : Int) - (y : Int) % 9 = (x : Int) := by
          have h := HX.out
          unfold elt at h
          rw [if_pos h5] at h
          omega
        clear h5
        go_wp2_with fail
        refine HH.out.mono ?_
        rintro e w1 ⟨rfl, rfl⟩
        cases r with
        | true =>
          have hs2 : stp S x = S := by unfold stp; rw [if_pos (of_decide_eq_true HR.out.symm)]
          have HS2 := Lib.hid (HST.out.trans hs2)
          clear hs2
          go_wp2
          go_roundw
          case rel => exact ⟨k + 1, hlt, by go_num, by rw [HS2.out]; exact HGO.out, hbr⟩
          case measure => simp [intOf]; omega
        | false =>
          have hs2 : stp S x = S ++ [x] := by unfold stp; rw [if_neg (of_decide_eq_false HR.out.symm)]
          have HS2 := Lib.hid (HST.out.trans hs2)
          clear hs2
          go_wp2_with (at_builtin; refine wpList_push64 rfl _ _ rfl w.heap.size x _ _ HGO.out rfl rfl (by have := HSL.out; omega) hsz ?_; intro z2 w2 hz2 hb2; have HZ2 := Lib.hid hz2; clear hz2)
          go_roundw
          case rel => exact ⟨k + 1, hlt, by go_num, by rw [HS2.out]; exact HZ2.out, hbr.trans hb2⟩
          case measure => simp [intOf]; omega
      · by_cases h3 : y % 7 = 3
        · have d3 : (y : Int) % 7 = 3 := by omega
          have e3 : (1 : Int) + (y : Int) % 1152921504606846976 = (x : Int) := by
            have h := HX.out
            unfold elt at h
            rw [if_neg h5, if_pos h3] at h
            omega
          clear h5 h3
          go_wp2_with fail
          refine HH.out.mono ?_
          rintro e w1 ⟨rfl, rfl⟩
          cases r with
          | true =>
            have hs2 : stp S x = S := by unfold stp; rw [if_pos (of_decide_eq_true HR.out.symm)]
            have HS2 := Lib.hid (HST.out.trans hs2)
            clear hs2
            go_wp2
            go_roundw
            case rel => exact ⟨k + 1, hlt, by go_num, by rw [HS2.out]; exact HGO.out, hbr⟩
            case measure => simp [intOf]; omega
          | false =>
            have hs2 : stp S x = S ++ [x] := by unfold stp; rw [if_neg (of_decide_eq_false HR.out.symm)]
            have HS2 := Lib.hid (HST.out.trans hs2)
            clear hs2
            go_wp2_with (at_builtin; refine wpList_push64 rfl _ _ rfl w.heap.size x _ _ HGO.out rfl rfl (by have := HSL.out; omega) hsz ?_; intro z2 w2 hz2 hb2; have HZ2 := Lib.hid hz2; clear hz2)
            go_roundw
            case rel => exact ⟨k + 1, hlt, by go_num, by rw [HS2.out]; exact HZ2.out, hbr.trans hb2⟩
            case measure => simp [intOf]; omega
        · obtain ⟨s7, hs7⟩ : ∃ s7, s7 = y % 7 := ⟨_, rfl⟩
          have d7 : (y : Int) % 7 = (s7 : Int) := by omega
          have d8 : ((s7 : Int) == 3) = false := by rw [beq_eq_false_iff_ne]; omega
          have d9 : ((s7 : Int) == 5) = false := by rw [beq_eq_false_iff_ne]; omega
          have d8' : ¬ (s7 : Int) = 3 := by omega
          have d9' : ¬ (s7 : Int) = 5 := by omega
          have e1 : (1 : Int) + (y : Int) % 30 = (x : Int) := by
            have h := HX.out
            unfold elt at h
            rw [if_neg h5, if_neg h3] at h
            omega
          clear h5 h3 hs7
          go_wp2_with fail
          refine HH.out.mono ?_
          rintro e w1 ⟨rfl, rfl⟩
          cases r with
          | true =>
            have hs2 : stp S x = S := by unfold stp; rw [if_pos (of_decide_eq_true HR.out.symm)]
            have HS2 := Lib.hid (HST.out.trans hs2)
            clear hs2
            go_wp2
            go_roundw
            case rel => exact ⟨k + 1, hlt, by go_num, by rw [HS2.out]; exact HGO.out, hbr⟩
            case measure => simp [intOf]; omega
          | false =>
            have hs2 : stp S x = S ++ [x] := by unfold stp; rw [if_neg (of_decide_eq_false HR.out.symm)]
            have HS2 := Lib.hid (HST.out.trans hs2)
            clear hs2
            go_wp2_with (at_builtin; refine wpList_push64 rfl _ _ rfl w.heap.size x _ _ HGO.out rfl rfl (by have := HSL.out; omega) hsz ?_; intro z2 w2 hz2 hb2; have HZ2 := Lib.hid hz2; clear hz2)
            go_roundw
            case rel => exact ⟨k + 1, hlt, by go_num, by rw [HS2.out]; exact HZ2.out, hbr.trans hb2⟩
            case measure => simp [intOf]; omega
    · have e : k = m := by omega
      have hfin : stk [] (l.map elt) k = setf l := by
        unfold setf
        rw [e, HM.out, HN.out]
      have HF := Lib.hid hfin
      clear hfin
      by_cases hkn : k < n
      · have q1 : (k : Int) < (n : Int) := by omega
        have q2 : ¬ ((k : Int) < 12) := by have := HM.out; omega
        go_wp2
        go_ret
        exact ⟨⟨_, rfl, by rw [← HF.out, ← HS.out]; exact HG.out⟩, hbr⟩
      · have q1 : ¬ ((k : Int) < (n : Int)) := by omega
        go_wp2
        go_ret
        exact ⟨⟨_, rfl, by rw [← HF.out, ← HS.out]; exact HG.out⟩, hbr⟩
end Go.Proofs.Ytcbcmnbfflaicaa
