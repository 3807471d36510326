/-
  PolyFermat: what a polynomial has in common with x^P less x has all its roots, each once.
-/
import Derived.Test.YtalljoneflepiaaLwf
namespace Go.Proofs.Ytalljoneflepiaa
open Go.RowKit

section
variable {w : World} {o o2 : Value} {s : Pl} {d k : Nat}
theorem rootsk_lv (h : Qv w o s d) (hd : d ≤ 13) (h0 : s ≠ 0) : Calls Try.prog 36 #[o] w fun e w' => (∃ A n c rs, e = .returned (.slice A n c) ∧ Rv w' (.slice A n c) s ∧ Pt w' A n c rs ∧ Pl.Rof s rs ∧ n < d) ∧ Below w.heap.size w w' := by
  obtain ⟨m, hm, hg⟩ := Pl.dg_of d s h.lt h0
  obtain ⟨A, n, c, l, rfl, h1, h2, h3, rfl⟩ := h
  refine (roots_any A n c l w h1.1 (by omega) h2 h1.2.1).mono ?_
  rintro e w' ⟨⟨A', n', c', rs, rfl, hp, _, hr⟩, hb⟩
  have hr := hr h0
  have := hr.1.len hg
  have := hp.1
  exact ⟨⟨A', n', c', rs, rfl, ⟨A', n', c', rs, rfl, hp, hr.1, hr.2.rise hr.1.2.1⟩, hp, hr.1, by omega⟩, hb⟩
end
/-- How many of the first t are not 0. -/
def cnt (l : List Nat) (t : Nat) : Nat := ((l.take t).filter fun r => decide (r ≠ 0)).length
theorem cnt_succ {l : List Nat} {t : Nat} (h : t < l.length) : cnt l (t + 1) = cnt l t + if l[t]?.getD 0 = 0 then 0 else 1 := by
  unfold cnt
  rw [take_next h, List.filter_append, List.length_append]
  by_cases h0 : l[t]?.getD 0 = 0
  · rw [if_pos h0, h0]; rfl
  · rw [if_neg h0, List.filter_cons]
    simp [h0]
theorem cnt_all {l : List Nat} {t : Nat} (h : t = l.length) : cnt l t = (l.filter fun r => decide (r ≠ 0)).length := by
  unfold cnt
  rw [h, List.take_length]
theorem co_drop_zero {l : List Nat} {e : Nat} (h : l[e]?.getD 0 = 0) : Pl.co (l.drop e) = Pl.sh (Pl.co (l.drop (e + 1))) := Pl.ext fun n => by
  cases n with
  | zero => rw [Pl.co_at, List.getElem?_drop, Nat.add_zero, h]; rfl
  | succ n => rw [Pl.sh_s, Pl.co_at, Pl.co_at, List.getElem?_drop, List.getElem?_drop, show e + (n + 1) = e + 1 + n by omega]
theorem co_drop_dg {l : List Nat} {e n : Nat} (ht : Pl.Tr l) (hl : l.length = e + (n + 1)) : Pl.Dg (Pl.co (l.drop e)) n := by
  have hd := ht.dg (n := e + n) (by omega)
  constructor
  · rw [Pl.co_at, List.getElem?_drop]
    exact hd.1
  · have h := Pl.Lt.co (l.drop e)
    rw [List.length_drop] at h
    exact h.mono (by omega)

/-! ### x^P less x -/
theorem xq (w : World) : Tv (w.alloc (.cells #[.int .u64 0, .int .u64 1] 23)) (.slice (some ⟨w.heap.size, 0, none⟩) 2 2) Pl.X 5 :=
  ⟨_, 2, 2, [0, 1], rfl, ⟨rfl, rd_news w [0, 1], Nat.le_refl _, fun e => by cases e⟩, ⟨⟨by intro y hy; simp at hy; omega, .inr (by decide)⟩, by
    rw [Pl.co_cons, Pl.co_cons, Pl.co_nil, Pl.sh_zero, Pl.add_zero, Fld.to_zero, Pl.C_zero, Pl.zero_add, Fld.to_one]; rfl⟩, by omega⟩
theorem mq (w : World) : Qv (w.alloc (.cells #[.int .u64 0, .int .u64 0, .int .u64 2305843009213693950] 23)) (.slice (some ⟨w.heap.size, 0, none⟩) 3 3) (Pl.sh (Pl.sh (Pl.C (Fld.to 2305843009213693950)))) 3 :=
  ⟨_, 3, 3, [0, 0, 2305843009213693950], rfl, ⟨rfl, rd_news w [0, 0, 2305843009213693950], Nat.le_refl _, fun e => by cases e⟩, by intro y hy; simp at hy; omega, Nat.le_refl _, by
    rw [Pl.co_cons, Pl.co_cons, Pl.co_cons, Pl.co_nil, Pl.sh_zero, Pl.add_zero, Fld.to_zero, Pl.C_zero, Pl.zero_add, Pl.zero_add]⟩
namespace Pl
theorem min_one {M : Fld.F} (hM : M + 1 = 0) : M = 0 - 1 := by
  have h : M = M + 1 - 1 := by grind
  rw [h, hM]
/-- x to the power of P and 1, less x squared, is x times (x^P less x). -/
theorem xp_shift {M : Fld.F} (hM : M + 1 = 0) : pw X (2305843009213693951 + 1) + sh (sh (C M)) = X * xp := by
  have e1 : pw X (2305843009213693951 + 1) = pw X 2305843009213693951 * X := rfl
  have e2 : sh (sh (C M)) = 0 - X * X := by
    rw [X_mul]
    unfold X
    refine ext fun n => ?_
    rw [sub_at, zero_at]
    match n with
    | 0 => show (0 : Fld.F) = 0 - 0; exact (Fld.sub_zero 0).symm
    | 1 => show (0 : Fld.F) = 0 - 0; exact (Fld.sub_zero 0).symm
    | 2 => show M = 0 - 1; exact min_one hM
    | n + 3 => show (0 : Fld.F) = 0 - 0; exact (Fld.sub_zero 0).symm
  rw [e1, e2]
  unfold xp
  rw [mul_sub, mul_comm X (pw X 2305843009213693951)]
  exact ext fun n => by simp only [add_at, sub_at, zero_at]; grind
/-- What both have in common does not change, if one of both is replaced by what it leaves. -/
theorem Gc.cg {p a b g : Pl} (h : Cg p a b) (hg : Gc b p g) : Gc a p g := by
  refine ⟨hg.1, fun d hd => ?_, hg.2.2⟩
  rw [hg.2.1 d hd]
  constructor
  · rintro ⟨h1, h2⟩
    refine ⟨?_, h2⟩
    have h3 := Dv.add (Dv.trans h2 h) h1
    rwa [sub_add] at h3
  · rintro ⟨h1, h2⟩
    refine ⟨?_, h2⟩
    have h3 := Dv.sub h1 (Dv.trans h2 h)
    rwa [show a - (a - b) = b from ext fun n => by simp only [sub_at]; grind] at h3
theorem tl_po {s : Pl} (h : Po s) : Po (tl s) := by obtain ⟨n, hn⟩ := h; exact ⟨n, fun i hi => hn (i + 1) (by omega)⟩
theorem val_zero_at {s : Pl} (h : Po s) : val s 0 = s 0 := by
  have h1 : val (C (s 0) + sh (tl s)) 0 = s 0 := by rw [val_add (Po.C _) (tl_po h).sh, val_C, val_sh (tl_po h), Fin.zero_mul, Fin.add_zero]
  rwa [← parts s] at h1
theorem shift_of {s : Pl} (h0 : s 0 = 0) : s = X * tl s := by
  rw [X_mul]
  refine ext fun n => ?_
  cases n with
  | zero => rw [h0, sh_0]
  | succ n => rw [sh_s]; rfl
theorem X_cancel {a b : Pl} (h : X * a = X * b) : a = b := by
  rw [X_mul, X_mul] at h
  exact ext fun n => congrFun h (n + 1)
theorem val_shn {s : Pl} (h : Po s) (x : Fld.F) : ∀ e, val (shn e s) x = Fld.up x e * val s x
  | 0 => by show val s x = 1 * val s x; grind
  | e + 1 => by
    show val (sh (shn e s)) x = _
    rw [val_sh (h.shn e), val_shn h x e, Fld.up_succ]; grind
theorem up_zero_pos {e : Nat} (he : 0 < e) : Fld.up (0 : Fld.F) e = 0 := by
  obtain ⟨n, rfl⟩ : ∃ n, e = n + 1 := ⟨e - 1, by omega⟩
  rw [Fld.up_succ, Fin.mul_zero]
theorem up_ne {x : Fld.F} (h : x ≠ 0) : ∀ e, Fld.up x e ≠ 0
  | 0 => Fld.one_ne
  | e + 1 => by rw [Fld.up_succ]; exact Fld.mul_ne (up_ne h e) h
theorem po_Xxp : Po (X * xp) := Po.X.mul Po.xp
theorem val_Xxp (x : Fld.F) : val (X * xp) x = 0 := by rw [val_mul Po.X Po.xp, val_xp, Fin.mul_zero]
/-- What is left of what p has in common with x times (x^P less x), without x, has as many roots as its degree: p's, but 0. -/
theorem fermat_end {p g h : Pl} {e d : Nat} {rs : List Nat} (hp : Po p) (hg : Gc (X * xp) p g) (hh : Po h) (he : shn e h = g) (h0 : h 0 ≠ 0) (hd : Dg h d) (hr : Rof p rs) :
    (rs.filter fun r => decide (r ≠ 0)).length = d ∧ (0 < e ↔ 0 ∈ rs) := by
  have hgv : ∀ x, val g x = 0 ↔ val p x = 0 := fun x => by rw [hg.val po_Xxp hp]; exact ⟨fun h => h.2, fun h => ⟨val_Xxp x, h⟩⟩
  have hdv : Dv h xp := by
    obtain ⟨u, hu, e1⟩ := hg.left
    have hgs : g = h * shn e (C 1) := by rw [← he, mul_comm, shn_mul, one_mul]
    rw [hgs, mul_assoc] at e1
    have hu2 : Po (shn e (C 1) * u) := ((Po.C 1).shn e).mul hu
    have hv0 : (shn e (C 1) * u) 0 = 0 := by
      have h1 := val_zero_at hu2
      have h2 := val_Xxp 0
      rw [e1, val_mul hh hu2, val_zero_at hh, Fld.mul_eq_zero] at h2
      rw [← h1]
      exact h2.resolve_left h0
    refine ⟨tl (shn e (C 1) * u), tl_po hu2, X_cancel ?_⟩
    rw [mul_left_comm, ← shift_of hv0]
    exact e1
  obtain ⟨d', hd', hl⟩ := full_of_dv hh hdv
  obtain rfl := hd.uniq hd'
  have hval : ∀ x, val h x = 0 ↔ (val p x = 0 ∧ x ≠ 0) := fun x => by
    have h1 := hgv x
    rw [← he, val_shn hh, Fld.mul_eq_zero] at h1
    constructor
    · intro hx
      refine ⟨h1.1 (.inr hx), ?_⟩
      rintro rfl
      rw [val_zero_at hh] at hx
      exact h0 hx
    · rintro ⟨hx, hne⟩
      exact (h1.2 hx).resolve_left (up_ne hne e)
  constructor
  · have hperm : List.Perm ((rs.filter fun r => decide (r ≠ 0)).map Fld.to) (rts h) := by
      refine (List.perm_ext_iff_of_nodup ?_ (rts_nodup h)).2 fun x => ?_
      · rw [List.Nodup, List.pairwise_map]
        refine List.Pairwise.imp_of_mem ?_ (hr.2.1.sublist List.filter_sublist)
        intro a b ha hb hab e2
        exact hab (to_inj' (hr.1 a (List.mem_filter.1 ha).1) (hr.1 b (List.mem_filter.1 hb).1) e2)
      · rw [mem_rts, hval, List.mem_map]
        constructor
        · rintro ⟨n, hn, rfl⟩
          obtain ⟨h1, h2⟩ := List.mem_filter.1 hn
          have hlt := hr.1 n h1
          exact ⟨(hr.2.2 n hlt).1 h1, fun e2 => by have := (to_eq_zero hlt).1 e2; simp at h2; exact h2 this⟩
        · rintro ⟨h1, h2⟩
          refine ⟨x.val, List.mem_filter.2 ⟨(hr.2.2 _ x.isLt).2 (by rw [Fld.to_self]; exact h1), ?_⟩, Fld.to_self x⟩
          have h3 : x.val ≠ 0 := fun e2 => h2 (by rw [← Fld.to_self x, e2]; rfl)
          simpa using h3
    have := hperm.length_eq
    rw [List.length_map] at this
    omega
  · rw [hr.2.2 0 (by omega)]
    have h1 := hgv 0
    rw [← he, val_shn hh, Fld.mul_eq_zero] at h1
    show _ ↔ val p 0 = 0
    rw [← h1]
    constructor
    · intro h2; exact .inl (up_zero_pos h2)
    · rintro (h2 | h2)
      · rcases Nat.eq_zero_or_pos e with h3 | h3
        · subst h3; exact absurd h2 Fld.one_ne
        · exact h3
      · rw [val_zero_at hh] at h2; exact absurd h2 h0
end Pl

/-- A power of two. -/
def tw : Nat → Nat
  | 0 => 1
  | n + 1 => tw n + tw n
theorem tw_61 : tw 61 = 2305843009213693951 + 1 := by decide +kernel
theorem Tv.fit {w : World} {A : Option Addr} {n c d k : Nat} {s : Pl} (h : Tv w (.slice A n c) s d) (hk : n ≤ k) : Tv w (.slice A n c) s k := by
  obtain ⟨_, _, _, l, e, h1, h2, _⟩ := h
  injection e with e1 e2 e3
  subst e1 e2 e3
  exact ⟨A, n, c, l, rfl, h1, h2, hk⟩
theorem fermat_gc {p R q r g : Pl} {M : Fld.F} (hM : M + 1 = 0) (hc : Pl.Cg p (Pl.pw Pl.X (tw 61)) R) (hd : Pl.DM (R + Pl.sh (Pl.sh (Pl.C M))) p q r) (hg : Pl.Gc r p g) : Pl.Gc (Pl.X * Pl.xp) p g := by
  rw [tw_61] at hc
  have h1 : Pl.Cg p (Pl.pw Pl.X (2305843009213693951 + 1) + Pl.sh (Pl.sh (Pl.C M))) (R + Pl.sh (Pl.sh (Pl.C M))) := by
    unfold Pl.Cg at hc ⊢
    rwa [show ∀ a b c : Pl, a + c - (b + c) = a - b from fun a b c => Pl.ext fun n => by simp only [Pl.add_at, Pl.sub_at]; grind]
  rw [Pl.xp_shift hM] at h1
  exact Pl.Gc.cg (h1.trans (Pl.Cg.of_dm hd)) hg
theorem roots_few {w : World} {A : Option Addr} {n c : Nat} {s : Pl} {d : Nat} (h : Tv w (.slice A n c) s d) (hn : n < 2) : Calls Try.prog 36 #[.slice A n c] w fun e w' => (∃ A c, e = .returned (.slice A (0 : Nat) c)) ∧ Below w.heap.size w w' := by
  by_cases h0 : s = 0
  · subst h0
    exact roots0_v (h.fit (k := 13) (by omega)).q (by omega)
  · refine (rootsk_lv (h.fit (k := 1) (by omega)).q (by omega) h0).mono ?_
    rintro e w' ⟨⟨A', n', c', rs, rfl, -, -, -, hn'⟩, hb⟩
    obtain rfl : n' = 0 := by omega
    exact ⟨⟨A', c', rfl⟩, hb⟩
set_option maxHeartbeats 1000000 in
theorem hasnum_any (A : Option Addr) (n c : Nat) (l : List Nat) (w : World) (hn : n = l.length) (hn9 : n ≤ 1000) (hA : Rd w.heap.size w A (u64s l)) :
    Calls Try.prog 41 #[.slice A n c, .int .u64 0] w fun e w' => e = .returned (.bool (decide (0 ∈ l))) ∧ w = w' := by
  have HN := Lib.hid hn
  have HA := Lib.hid hA
  obtain ⟨b, hb⟩ : ∃ b, b = decide (0 ∈ l) := ⟨_, rfl⟩
  rw [← hb]
  have HB := Lib.hid hb
  clear hn hA hb
  go_enter Try.func41, Try.ntmps41
  go_wp2
  go_loop [5] (fun i => ∃ k : Nat, i = .int .i64 (k : Int) ∧ k ≤ n ∧ ∀ j, j < k → l[j]?.getD 0 ≠ 0) (fun i => n - (intOf i).toNat)
  case atStart => exact ⟨0, rfl, Nat.zero_le _, fun j h => absurd h (Nat.not_lt_zero j)⟩
  case round =>
    obtain ⟨k, rfl, hk, hall⟩ := hrel
    have HALL := Lib.hid hall
    clear hall
    by_cases hlt : k < n
    · obtain ⟨bl, off, e1, hbb, hcl⟩ := HA.out.num (k := k) (by rw [← HN.out]; exact hlt)
      obtain ⟨x, hx⟩ : ∃ x, x = l[k]?.getD 0 := ⟨_, rfl⟩
      rw [← hx] at hcl
      have HX := Lib.hid hx
      clear hx
      subst e1
      by_cases h0 : x = 0
      · have t1 : ((x : Int) == 0) = true := by rw [h0]; rfl
        have hbt : b = true := by rw [HB.out]; exact decide_eq_true (mem_getD.2 ⟨k, by rw [← HN.out]; exact hlt, by rw [← HX.out]; exact h0⟩)
        have HBT := Lib.hid hbt
        clear h0 hbt
        go_wp2
        go_ret
        exact ⟨by rw [HBT.out]; rfl, rfl⟩
      · have t1 : ((x : Int) == 0) = false := by rw [beq_eq_false_iff_ne]; omega
        have H0 := Lib.hid h0
        clear h0
        go_wp2
        go_round
        case rel =>
          refine ⟨k + 1, by go_num, hlt, fun j hj => ?_⟩
          rcases Nat.lt_or_ge j k with h | h
          · exact HALL.out j h
          · obtain rfl : j = k := by omega
            rw [← HX.out]; exact H0.out
        case measure => simp [intOf]; omega
    · have hbf : b = false := by
        rw [HB.out]
        refine decide_eq_false fun h => ?_
        obtain ⟨j, hj, e⟩ := mem_getD.1 h
        exact HALL.out j (by have := HN.out; omega) e
      have HBF := Lib.hid hbf
      clear hbf
      go_wp2
      go_ret
      exact ⟨by rw [HBF.out]; rfl, rfl⟩

set_option maxRecDepth 100000 in
set_option maxHeartbeats 8000000 in
theorem fermat_walk (A : Option Addr) (n c : Nat) (l : List Nat) (w : World) (hA : In w A n c l) :
    Calls Try.prog 11 #[.slice A n c] w fun e w' => e = .returned (.bool true) ∧ Below w.heap.size w w' := by
  have A0 := Lib.hid hA
  have hk0 : Below w.heap.size w w := Below.refl _ _
  clear hA
  go_enter Try.func11, Try.ntmps11
  go_wp2_with fail
  refine (nums_v A0.out 5 (by omega)).mono ?_
  rintro e w1 ⟨⟨z, rfl, h⟩, hb1⟩
  have hk1 := kept_trans hk0 hb1
  have X1 := Lib.hid h
  clear hb1 hk0 A0 h
  go_wp2_with fail
  refine (trim_v X1.out (by omega)).mono ?_
  rintro e w2 ⟨⟨p, rfl, h⟩, hb2⟩
  obtain ⟨Ap, np, cp, rfl, hp9, hp0, -⟩ := h.open_
  have hk2 := kept_trans hk1 hb2
  have P2 := Lib.hid h
  have PZ := Lib.hid hp0
  clear hb2 hk1 X1 h hp0
  obtain ⟨p, hp⟩ : ∃ p, p = Pl.co (l.take 5) := ⟨_, rfl⟩
  rw [← hp] at P2 PZ
  clear hp
  by_cases h2 : np < 2
  · have t1 : (np : Int) < 2 := by omega
    go_wp2_with fail
    refine (roots_few P2.out h2).mono ?_
    rintro e w3 ⟨⟨A5, c5, rfl⟩, hb3⟩
    have hk3 := kept_trans hk2 hb3
    clear hb3 hk2 P2
    go_wp2_with fail
    refine (lives_any w3).mono ?_
    rintro e w4 ⟨rfl, hb4⟩
    have hk4 := kept_trans hk3 hb4
    clear hb4 hk3
    go_wp2
    go_ret
    exact ⟨rfl, hk4⟩
  · have t1 : ¬ (np : Int) < 2 := by omega
    have hpn : p ≠ 0 := fun h => by have := PZ.out.2 h; omega
    have PN := Lib.hid hpn
    clear hpn
    go_wp2
    have hst : ∃ R, Tv (w2.alloc (.cells #[.int .u64 0, .int .u64 1] 23)) (.slice (some ⟨w2.heap.size, 0, none⟩) 2 2) R 5 ∧ Pl.Cg p (Pl.pw Pl.X (tw 0)) R ∧ Below w2.heap.size w2 (w2.alloc (.cells #[.int .u64 0, .int .u64 1] 23)) :=
      ⟨Pl.X, xq w2, by show Pl.Cg p (Pl.C 1 * Pl.X) Pl.X; rw [Pl.one_mul]; exact Pl.Cg.refl _ _, (Below.refl _ _).alloc (Nat.le_refl _) _⟩
    have ST := Lib.hid hst
    clear hst
    go_loopw [4, 5] (fun a i wr => ∃ t : Nat, i = .int .i64 (t : Int) ∧ t ≤ 61 ∧ ∃ R, Tv wr a R 5 ∧ Pl.Cg p (Pl.pw Pl.X (tw t)) R ∧ Below w2.heap.size w2 wr) (fun _ i _ => 61 - (intOf i).toNat)
    case atStart => exact ⟨0, rfl, by omega, ST.out⟩
    case round =>
      obtain ⟨t, rfl, ht, R, hR, hcg, hbr⟩ := hrel
      have HR := Lib.hid hR
      have HC := Lib.hid hcg
      have PR := Lib.hid (P2.out.below hbr)
      have hkr := kept_trans hk2 hbr
      clear hR hcg ST
      by_cases hlt : t < 61
      · have q1 : (t : Int) < 61 := by omega
        go_wp2_with fail
        refine (mul_v HR.out.q HR.out.q (by omega) (by omega)).mono ?_
        rintro e wa ⟨⟨z1, rfl, h1⟩, hba⟩
        have H1 := Lib.hid h1
        clear h1
        go_wp2_with fail
        refine (divm_v H1.out.q (PR.out.below hba) (by omega) (by omega) PN.out).mono ?_
        rintro e wb ⟨⟨z2, A2, n2, c2, q, r, rfl, h2q, h2r, hn2, hdm⟩, hbb⟩
        have H2 := Lib.hid (And.intro (h2r.fit (show n2 ≤ 5 by omega)) (Pl.Cg.sq Pl.Po.X HR.out.q.po HC.out hdm))
        have hbab := kept_trans hbr (kept_trans hba hbb)
        clear h2q h2r hdm hn2
        go_wp2
        go_roundw
        case rel => exact ⟨t + 1, by go_num, hlt, r, H2.out.1, H2.out.2, hbab⟩
        case measure => simp [intOf]; omega
      · obtain rfl : t = 61 := by omega
        have q1 : ¬ ((61 : Nat) : Int) < 61 := by omega
        have hM := Pl.to_less
        have HM := Lib.hid hM
        clear hM
        go_wp2_with fail
        refine (add_v (HR.out.new _).q (mq wr) (by omega) (by omega)).mono ?_
        rintro e wa ⟨⟨z1, rfl, h1⟩, hba⟩
        have hba := below_new hba
        have H1 := Lib.hid h1
        have PA := Lib.hid (PR.out.below hba)
        have hka := kept_trans hkr hba
        clear h1
        go_wp2_with fail
        refine (divm_v H1.out.q PA.out (by omega) (by omega) PN.out).mono ?_
        rintro e wb ⟨⟨z2, A2, n2, c2, q, r, rfl, h2q, h2r, hn2, hdm⟩, hbb⟩
        have H2 := Lib.hid (And.intro h2r hdm)
        have PB := Lib.hid (PA.out.below hbb)
        have hkb := kept_trans hka hbb
        clear h2q h2r hdm hn2
        go_wp2_with fail
        refine (gcd1_v H2.out.1.q PB.out.q (by omega) (by omega) (.inr PN.out)).mono ?_
        rintro e wc ⟨⟨bg, og, ng, jg, cg, g, rfl, hnj, hn9, h3, -, hg, hg0⟩, hbc⟩
        have hgx := fermat_gc HM.out HC.out H2.out.2 hg
        obtain ⟨_, _, _, lg, e3, hpg, hig, _⟩ := h3
        injection e3 with e31 e32 e33
        subst e31 e32 e33
        have HG := Lib.hid (And.intro hpg (And.intro hig (And.intro hgx hg0)))
        have PC := Lib.hid (PB.out.below hbc)
        have hkc := kept_trans hkb hbc
        have t4 : ((ng : Int) == 0) = false := by rw [beq_eq_false_iff_ne]; omega
        clear hpg hig hgx hg hg0 hnj
        go_wp2_with fail
        refine (rootsk_lv PC.out.q (by omega) PN.out).mono ?_
        rintro e wd ⟨⟨Ar, nr, cr, rs, rfl, -, hpt, hrf, hnr⟩, hbd⟩
        have HT := Lib.hid (And.intro hpt hrf)
        have PD := Lib.hid (PC.out.below hbd)
        have HPG := Lib.hid (HG.out.1.below hbd)
        have hkd := kept_trans hkc hbd
        have hself : Below wd.heap.size wd wd := Below.refl _ _
        clear hpt hrf
        go_wp2
        go_loopw [11, 13] (fun m i wr => ∃ j : Nat, i = .int .i64 (j : Int) ∧ j ≤ nr ∧ m = .int .i64 (cnt rs j : Nat) ∧ cnt rs j ≤ j ∧ Below wd.heap.size wd wr) (fun _ i _ => nr - (intOf i).toNat)
        case atStart => exact ⟨0, rfl, Nat.zero_le _, rfl, Nat.le_refl _, hself⟩
        case round =>
          obtain ⟨j, rfl, hj, rfl, hcj, hbj⟩ := hrel
          clear hself
          have hkj := kept_trans hkd hbj
          by_cases hlj : j < nr
          · obtain ⟨b1, o1, e1, hb1, hc1⟩ := HT.out.1.2.1.num (k := j) (by rw [← HT.out.1.1]; exact hlj)
            have hc1r := (hbj.cell (p := ⟨b1, o1 + j, none⟩) hb1).trans hc1
            have hyl := HT.out.2.1.get j
            have hroot := (HT.out.2.2.2 _ hyl).1 (mem_getD.2 ⟨j, by rw [← HT.out.1.1]; exact hlj, rfl⟩)
            have hcs := cnt_succ (l := rs) (t := j) (by rw [← HT.out.1.1]; exact hlj)
            obtain ⟨y, hy⟩ : ∃ y, y = rs[j]?.getD 0 := ⟨_, rfl⟩
            rw [← hy] at hc1r hyl hroot hcs
            have hev := eval_v (PD.out.below hbj).q (by omega) y (by omega)
            rw [(vl_zero p y).2 hroot] at hev
            rw [show ((0 : Nat) : Int) = 0 from rfl] at hev
            have HEV := Lib.hid hev
            obtain ⟨m, hm⟩ : ∃ m, m = cnt rs j := ⟨_, rfl⟩
            rw [← hm] at hcs hcj ⊢
            have HCS := Lib.hid hcs
            have q2 : (m : Int) ≤ 100 := by omega
            have q3 : (0 : Int) ≤ (j : Int) := by omega
            have q4 : (j : Int) < (nr : Int) := by omega
            clear hc1 hy hroot hev hm hcs
            subst e1
            go_wp2_with fail
            refine HEV.out.mono ?_
            rintro e we ⟨rfl, hbe⟩
            have hc1e := (hbe.cell (p := ⟨b1, o1 + j, none⟩) (by show b1 < wr.heap.size; have := hbj.size; omega)).trans hc1r
            have hbje := kept_trans hbj hbe
            by_cases hy0 : y = 0
            · have t5 : ((y : Int) != 0) = false := by rw [hy0]; rfl
              have hc2 : cnt rs (j + 1) = m := by rw [HCS.out, if_pos hy0]; omega
              have HC2 := Lib.hid hc2
              clear hy0 hc2
              go_wp2
              go_roundw
              case rel => exact ⟨j + 1, by go_num, hlj, by rw [HC2.out], by rw [HC2.out]; omega, hbje⟩
              case measure => simp [intOf]; omega
            · have t5 : ((y : Int) != 0) = true := by rw [bne_iff_ne]; omega
              have hc2 : cnt rs (j + 1) = m + 1 := by rw [HCS.out, if_neg hy0]
              have HC2 := Lib.hid hc2
              clear hy0 hc2
              go_wp2
              go_roundw
              case rel => exact ⟨j + 1, by go_num, hlj, by rw [HC2.out]; go_num, by rw [HC2.out]; omega, hbje⟩
              case measure => simp [intOf]; omega
          · obtain rfl : j = nr := by omega
            have hca := cnt_all (l := rs) (t := j) HT.out.1.1
            obtain ⟨m, hm⟩ : ∃ m, m = cnt rs j := ⟨_, rfl⟩
            rw [← hm] at hca hcj ⊢
            have HCA := Lib.hid hca
            have HPJ := Lib.hid (HPG.out.below hbj)
            have HTJ := Lib.hid (HT.out.1.below hbj)
            have h0 : Pl.shn 0 (Pl.co (lg.drop 0)) = g := by rw [List.drop_zero]; exact HG.out.2.1.2
            have hs0 : ∃ (e : Nat) (A : Option Addr) (n c : Nat), Value.slice (some ⟨bg, og, none⟩) ng cg = .slice A n c ∧ Value.int .i64 0 = .int .i64 (e : Int) ∧ n + e = lg.length ∧ e ≤ 100 ∧ Pt wr A n c (lg.drop e) ∧ Pl.shn e (Pl.co (lg.drop e)) = g :=
              ⟨0, _, ng, cg, rfl, rfl, HPJ.out.1, by omega, by rw [List.drop_zero]; exact HPJ.out, h0⟩
            have HS0 := Lib.hid hs0
            have HLG := Lib.hid (show lg.length ≤ 100 by have := HPJ.out.1; omega)
            clear hm hca h0 hs0
            go_wp2
            go_loop [10, 14] (fun a b => ∃ (e : Nat) (A : Option Addr) (n c : Nat), a = .slice A n c ∧ b = .int .i64 (e : Int) ∧ n + e = lg.length ∧ e ≤ 100 ∧ Pt wr A n c (lg.drop e) ∧ Pl.shn e (Pl.co (lg.drop e)) = g) (fun a _ => match a with | .slice _ n _ => n | _ => 0)
            case atStart => exact HS0.out
            case round =>
              obtain ⟨e, A, n, c, rfl, rfl, hne, he9, hpA, hsh⟩ := hrel
              have hg0 := HG.out.2.2.2
              have hn1 : 0 < n := by
                rcases Nat.eq_zero_or_pos n with h | h
                · exact absurd (by rw [← hsh, show lg.drop e = [] from List.drop_of_length_le (by omega), Pl.co_nil, Pl.shn_zero]) hg0
                · exact h
              obtain ⟨d, hd⟩ : ∃ d, n = d + 1 := ⟨n - 1, by omega⟩
              have hdg := co_drop_dg (e := e) (n := d) HG.out.2.1.1 (by omega)
              obtain ⟨b3, o3, e3, hb3, hc3⟩ := hpA.2.1.num (k := 0) (by have := hpA.1; omega)
              rw [Nat.add_zero, List.getElem?_drop, Nat.add_zero] at hc3
              obtain ⟨x, hx⟩ : ∃ x, x = lg[e]?.getD 0 := ⟨_, rfl⟩
              rw [← hx] at hc3
              have hxl : x < 2305843009213693951 := by rw [hx]; exact HG.out.2.1.1.1.get e
              have q5 : (0 : Int) < (n : Int) := by omega
              have q6 : (n : Int) ≤ 100 := by have := HLG.out; omega
              have q7 : (e : Int) ≤ 100 := by omega
              have HPA := Lib.hid hpA
              have HSH := Lib.hid hsh
              have HDG := Lib.hid hdg
              have HX := Lib.hid hx
              have HD := Lib.hid hd
              clear hg0 hpA hsh hdg hx hd HS0
              subst e3
              by_cases hx0 : x = 0
              · have t6 : ((x : Int) == 0) = true := by rw [hx0]; rfl
                have hn2 : 2 ≤ n := by
                  rcases Nat.lt_or_ge n 2 with h | h
                  · exfalso
                    rcases HG.out.2.1.1.2 with h5 | h5
                    · omega
                    · rw [show lg.length - 1 = e by omega, ← HX.out] at h5
                      exact h5 hx0
                  · exact h
                have hcc := HPA.out.2.2.1
                have hsl := fun W => slice_from b3 o3 n c 1 (n - 1) (c - 1) (by omega) (by omega) rfl rfl W
                rw [show ((1 : Nat) : Int) = 1 from rfl] at hsl
                obtain ⟨q, hq⟩ : ∃ q, q = n - 1 := ⟨_, rfl⟩
                obtain ⟨c9, hc9⟩ : ∃ c9, c9 = c - 1 := ⟨_, rfl⟩
                rw [← hq, ← hc9] at hsl
                have hdr : ∀ i, (lg.drop (e + 1))[i]? = (lg.drop e)[1 + i]? := fun i => by rw [List.getElem?_drop, List.getElem?_drop, Nat.add_assoc]
                have hp2 : Pt wr (some ⟨b3, o3 + 1, none⟩) q c9 (lg.drop (e + 1)) := by
                  refine ⟨by rw [List.length_drop]; omega, fun hp => ?_, by omega, fun e => by cases e⟩
                  obtain ⟨b, o, e5, h6, h7⟩ := HPA.out.2.1 (by rw [u64s_len, List.length_drop]; omega)
                  injection e5 with e5
                  injection e5 with e6 e7
                  subst e6 e7
                  refine ⟨b3, o3 + 1, rfl, h6, fun i u hu => ?_⟩
                  have h8 := h7 (1 + i) u (by rw [← hu, u64s_get, u64s_get, hdr])
                  rwa [← Nat.add_assoc] at h8
                have hs2 : Pl.shn (e + 1) (Pl.co (lg.drop (e + 1))) = g := by
                  rw [← Pl.shn_sh, ← co_drop_zero (HX.out.symm.trans hx0)]; exact HSH.out
                have H9 := Lib.hid (And.intro hp2 (And.intro hs2 (show q + (e + 1) = lg.length ∧ e + 1 ≤ 100 ∧ q < n by have := HLG.out; omega)))
                clear hx0 hn2 hq hc9 hdr hp2 hs2
                go_wp2
                go_round
                case rel => exact ⟨e + 1, _, q, c9, rfl, by go_num, H9.out.2.2.1, H9.out.2.2.2.1, H9.out.1, H9.out.2.1⟩
                case measure => exact H9.out.2.2.2.2
              · have t6 : ((x : Int) == 0) = false := by rw [beq_eq_false_iff_ne]; omega
                have hend := Pl.fermat_end PD.out.q.po HG.out.2.2.1 (Pl.Po.co _) HSH.out (by rw [Pl.co_at, List.getElem?_drop, Nat.add_zero, ← HX.out]; exact fun h => hx0 ((Pl.to_eq_zero hxl).1 h)) HDG.out HT.out.2
                have hmd : (n : Int) - 1 = (m : Int) := by have := HCA.out; have := HD.out; omega
                have hhn := hasnum_any Ar j cr rs wr HTJ.out.1 (by omega) HTJ.out.2.1
                have t7 : (((m : Int)) == (m : Int)) = true := by simp
                by_cases he0 : 0 < e
                · rw [show decide (0 ∈ rs) = true from decide_eq_true (hend.2.1 he0)] at hhn
                  have HHN := Lib.hid hhn
                  have q8 : (0 : Int) < (e : Int) := by omega
                  clear hend hhn hx0
                  go_wp2_with fail
                  refine HHN.out.mono ?_
                  rintro e4 w' ⟨rfl, rfl⟩
                  go_wp2_with fail
                  refine (lives_any _).mono ?_
                  rintro e4 wz ⟨rfl, hbz⟩
                  go_wp2
                  go_ret
                  exact ⟨rfl, kept_trans hkj hbz⟩
                · rw [show decide (0 ∈ rs) = false from decide_eq_false (fun h => he0 (hend.2.2 h))] at hhn
                  have HHN := Lib.hid hhn
                  have q8 : ¬ (0 : Int) < (e : Int) := by omega
                  clear hend hhn hx0
                  go_wp2_with fail
                  refine HHN.out.mono ?_
                  rintro e4 w' ⟨rfl, rfl⟩
                  go_wp2_with fail
                  refine (lives_any _).mono ?_
                  rintro e4 wz ⟨rfl, hbz⟩
                  go_wp2
                  go_ret
                  exact ⟨rfl, kept_trans hkj hbz⟩

end Go.Proofs.Ytalljoneflepiaa
