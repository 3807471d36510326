/-
  PolyRoots: the roots of a polynomial are those of which it is made, rising, each once.
-/
import Derived.Test.YtalljoneflepiaaLwf
namespace Go.Proofs.Ytalljoneflepiaa
open Go.RowKit

/-! ### a polynomial without roots -/
theorem up_sq (a : Fld.F) : ∀ n, Fld.up (a * a) n = Fld.up a (n + n)
  | 0 => rfl
  | n + 1 => by
    have e : n + 1 + (n + 1) = (n + n) + 1 + 1 := by omega
    rw [e, Fld.up_succ, Fld.up_succ, Fld.up_succ, up_sq a n]; grind
theorem up_half {a : Fld.F} (h : a ≠ 0) (n : Nat) (hn : n + n = 2305843009213693950) : Fld.up (a * a) n = 1 := by rw [up_sq, hn, Fld.fermatF h]
theorem val_three (y : Nat) (x : Fld.F) : Pl.val (Pl.co [y, 0, 1]) x = Fld.to y + x * x := by
  rw [Pl.co_cons, Pl.co_cons, Pl.co_cons, Pl.co_nil, Pl.sh_zero, Pl.add_zero, Fld.to_zero, Fld.to_one]
  rw [Pl.val_add (Pl.Po.C _) ((Pl.Po.C _).add (Pl.Po.C _).sh).sh, Pl.val_C, Pl.val_sh ((Pl.Po.C _).add (Pl.Po.C _).sh), Pl.val_add (Pl.Po.C _) (Pl.Po.C _).sh, Pl.val_C, Pl.val_sh (Pl.Po.C _), Pl.val_C]
  grind
theorem no_root {c : Nat} (hc0 : 0 < c) (hc : c < 2305843009213693951) (h : Fld.pow c 1152921504606846975 ≠ 1) (x : Fld.F) : Pl.val (Pl.co [Fld.sub 0 c, 0, 1]) x ≠ 0 := by
  intro hv
  rw [val_three, Fld.to_subF] at hv
  have hxx : x * x = Fld.to c := by
    have h0 : Fld.to 0 = 0 := rfl
    rw [h0] at hv
    grind
  have hx : x ≠ 0 := by
    rintro rfl
    rw [Fin.mul_zero] at hxx
    have := (Pl.to_eq_zero hc).1 hxx.symm
    omega
  have h1 := up_half hx 1152921504606846975 (by decide)
  rw [hxx, ← Fld.to_powF] at h1
  exact h (Pl.to_inj' (Fld.pow_lt _ _) (by omega) (h1.trans Fld.to_one.symm))

/-- What Rootless tells. -/
def RlT (w : World) (e : Ending) (w' : World) : Prop := (∃ o s, e = .returned o ∧ Tv w' o s 3 ∧ ∀ x, Pl.val s x ≠ 0) ∧ Below w.heap.size w w'
set_option maxRecDepth 100000 in
set_option maxHeartbeats 4000000 in
theorem rootless_v (z : Int) (w : World) (h1 : -9223372036854775808 ≤ z) (h2 : z ≤ 9223372036854775807) :
    Calls Try.prog 33 #[.int .i64 z] w (RlT w) := by
  have har := around_any z 60 w h1 h2 (by omega) (by omega)
  have HAR := Lib.hid har
  have hb0 : Below w.heap.size w w := Below.refl _ _
  clear har h1 h2
  go_enter Try.func33, Try.ntmps33
  go_wp2_with fail
  refine HAR.out.mono ?_
  rintro e w' ⟨k, hk, rfl, rfl⟩
  have hkI : (k : Int) < 60 := by omega
  have one : ∀ (W : World) (v : Nat), 0 < v → v < 2305843009213693951 → Tv (W.alloc (.cells #[.int .u64 (v : Int)] 23)) (.slice (some ⟨W.heap.size, 0, none⟩) 1 1) (Pl.C (Fld.to v)) 3 ∧ ∀ x, Pl.val (Pl.C (Fld.to v)) x ≠ 0 := fun W v h1 h2 =>
    ⟨⟨_, 1, 1, [v], rfl, ⟨rfl, rd_news W [v], Nat.le_refl _, fun e => by cases e⟩, ⟨⟨by intro y hy; rw [List.mem_singleton.1 hy]; exact h2, .inr (by show v ≠ 0; omega)⟩, co_one v⟩, by omega⟩, fun x h => by
      rw [Pl.val_C] at h
      have := (Pl.to_eq_zero h2).1 h
      omega⟩
  have ONE := Lib.hid one
  clear one
  by_cases hk10 : k < 10
  · obtain ⟨v, hv⟩ : ∃ v, v = k + 1 := ⟨_, rfl⟩
    have q1 : (1 : Int) + (k : Int) = (v : Int) := by omega
    have q2 : (k : Int) < 10 := by omega
    have ho := ONE.out w v (by omega) (by omega)
    have HO := Lib.hid ho
    clear hv ho
    go_wp2
    go_ret
    exact ⟨⟨_, _, rfl, HO.out⟩, (Below.refl _ w).alloc (Nat.le_refl _) _⟩
  · have q2 : ¬ (k : Int) < 10 := by omega
    go_wp2
    go_loopw [4] (fun c wr => ∃ t : Nat, c = .int .u64 (t : Int) ∧ 10 ≤ t ∧ t ≤ 200 ∧ Below w.heap.size w wr) (fun c _ => 200 - (intOf c).toNat)
    case atStart => exact ⟨k, rfl, by omega, by omega, hb0⟩
    case round =>
      obtain ⟨t, rfl, ht, ht2, hb⟩ := hrel
      have hsz := hb.size
      by_cases hlt : t < 200
      · have hrp := rpow_any t 1152921504606846975 wr (by omega)
        rw [show ((1152921504606846975 : Nat) : Int) = 1152921504606846975 from rfl] at hrp
        have hnr := fun h x => no_root (c := t) (by omega) (by omega) h x
        have hpl := Fld.pow_lt t 1152921504606846975
        obtain ⟨p, hp⟩ : ∃ p, p = Fld.pow t 1152921504606846975 := ⟨_, rfl⟩
        rw [← hp] at hrp hnr hpl
        have HRP := Lib.hid hrp
        have HNR := Lib.hid hnr
        have hsb := fun W => rsub_any 0 t W
        rw [show ((0 : Nat) : Int) = 0 from rfl] at hsb
        have hsl := Fld.sub_lt 0 t
        obtain ⟨y, hy⟩ : ∃ y, y = Fld.sub 0 t := ⟨_, rfl⟩
        have HY := Lib.hid hy
        rw [← hy] at hsb hsl
        have HSB := Lib.hid hsb
        have q3 : (t : Int) < 200 := by omega
        clear hp hrp hnr hy hsb
        go_wp2_with fail
        refine HRP.out.mono ?_
        rintro e w3 ⟨rfl, hb3⟩
        have hb03 := hb.trans (hb3.mono hsz)
        by_cases hp1 : p = 1
        · have t1 : ((p : Int) != 1) = false := by subst hp1; rfl
          have HP1 := Lib.hid hp1
          clear hp1
          go_wp2
          go_roundw
          case rel => exact ⟨t + 1, by go_num, by omega, hlt, hb03⟩
          case measure => simp [intOf]; omega
        · have t1 : ((p : Int) != 1) = true := by rw [bne_iff_ne]; omega
          go_wp2_with fail
          refine (HSB.out _).mono ?_
          rintro e w4 ⟨rfl, rfl⟩
          have ho : Tv (w3.alloc (.cells #[.int .u64 (y : Int), .int .u64 0, .int .u64 1] 23)) (.slice (some ⟨w3.heap.size, 0, none⟩) 3 3) (Pl.co [y, 0, 1]) 3 :=
            ⟨_, 3, 3, [y, 0, 1], rfl, ⟨rfl, rd_news w3 [y, 0, 1], Nat.le_refl _, fun e => by cases e⟩, ⟨⟨by intro v hv; simp at hv; omega, .inr (by show 1 ≠ 0; omega)⟩, rfl⟩, Nat.le_refl _⟩
          have hno := fun x => HNR.out hp1 x
          rw [← HY.out] at hno
          have HO := Lib.hid (And.intro ho hno)
          clear ho hno hp1
          go_wp2
          go_ret
          exact ⟨⟨_, _, rfl, HO.out⟩, hb03.trans ((Below.refl _ _).alloc hb03.size _)⟩
      · have q3 : ¬ (t : Int) < 200 := by omega
        have ho := ONE.out wr 1 (by omega) (by omega)
        have HO := Lib.hid ho
        clear ho
        go_wp2
        go_ret
        exact ⟨⟨_, _, rfl, HO.out⟩, hb.trans ((Below.refl _ _).alloc hb.size _)⟩

theorem ne_of_ro (R : List Nat) (s : Pl) (v : Nat) (hp : Pl.Po s) (hs : ∀ x, Pl.val s x ≠ 0) (h0 : 0 < v) (hP : v < 2305843009213693951) : Pl.C (Fld.to v) * (Pl.prodR R * s) ≠ 0 := by
  have hv : Fld.to v ≠ 0 := fun h => by have := (Pl.to_eq_zero hP).1 h; omega
  have hs0 : s ≠ 0 := by rintro rfl; exact hs 0 (Pl.val_zero 0)
  exact Pl.mul_ne (Pl.Po.C _) ((Pl.Po.prodR R).mul hp) (Pl.C_ne hv) (Pl.mul_ne (Pl.Po.prodR R) hp (Pl.Dg.prodR R).1.ne hs0)
theorem ro_of (R : List Nat) (s : Pl) (v : Nat) (hp : Pl.Po s) (hs : ∀ x, Pl.val s x ≠ 0) (h0 : 0 < v) (hP : v < 2305843009213693951) : Ro (Pl.C (Fld.to v) * (Pl.prodR R * s)) R := fun x => by
  have hv : Fld.to v ≠ 0 := fun h => by have := (Pl.to_eq_zero hP).1 h; omega
  rw [Pl.val_smul _ ((Pl.Po.prodR R).mul hp), Pl.val_mul (Pl.Po.prodR R) hp, Fld.mul_eq_zero, Fld.mul_eq_zero, prodR_root]
  exact ⟨fun h => by
    rcases h with h | h | h
    · exact absurd h hv
    · exact h
    · exact absurd h (hs _), fun h => .inr (.inl h)⟩
theorem rof_len {w : World} {o : Value} {s : Pl} {d : Nat} (h : Qv w o s d) (h0 : s ≠ 0) (hd : d ≤ 1000) : ∀ rs, Pl.Rof s rs → rs.length ≤ 1000 := fun rs hr => by
  obtain ⟨m, hm, hg⟩ := Pl.dg_of d s h.lt h0
  have := hr.len hg
  omega
theorem zp_q (w : World) : Qv (w.alloc (.cells #[.int .u64 0, .int .u64 2305843009213693951] 23)) (.slice (some ⟨w.heap.size, 0, none⟩) 2 2) 0 2 :=
  ⟨_, 2, 2, [0, 2305843009213693951], rfl, ⟨rfl, rd_news w [0, 2305843009213693951], Nat.le_refl _, fun e => by cases e⟩, by intro y hy; simp at hy; omega, Nat.le_refl _, by
    rw [Pl.co_cons, Pl.co_cons, Pl.co_nil, Pl.sh_zero, Pl.add_zero, Fld.to_zero, Pl.C_zero, Pl.zero_add, show Fld.to 2305843009213693951 = 0 from Fin.ext (by rw [Fld.to_val]; exact Nat.mod_self 2305843009213693951), Pl.C_zero, Pl.sh_zero]⟩

set_option maxRecDepth 100000 in
set_option maxHeartbeats 8000000 in
theorem roots_walk (A A3 : Option Addr) (n c m3 c3 x : Nat) (a3 : Int) (l : List Nat) (l3 : List Int) (w : World) (hA : In w A n c l) (hC : Iz w A3 m3 l3) (h31 : -9223372036854775808 ≤ a3) (h32 : a3 ≤ 9223372036854775807) :
    Calls Try.prog 6 #[.slice A n c, .slice A3 m3 c3, .int .i64 a3, .int .u64 (x : Int)] w fun e w' => e = .returned (.bool true) ∧ Below w.heap.size w w' := by
  have A0 := Lib.hid hA
  have C0 := Lib.hid hC
  have hk0 : Below w.heap.size w w := Below.refl _ _
  clear hA hC
  go_enter Try.func6, Try.ntmps6
  go_wp2_with fail
  refine (nums_gl l A n c 4 w A0.out.1 A0.out.2.1 (by omega) A0.out.2.2.2.1 A0.out.2.2.2.2).mono ?_
  rintro e w1 ⟨⟨xv, rfl, h⟩, hb1⟩
  have hlb := A0.out.2.2.1
  have HLB := Lib.hid hlb
  clear hlb
  have hk1 := kept_trans hk0 hb1
  have C1 := Lib.hid (C0.out.below hb1)
  have X1 := Lib.hid h
  clear hb1 hk0 A0 C0 h
  go_wp2_with fail
  refine (small_v C1.out 4 (by omega)).mono ?_
  rintro e w2 ⟨⟨s, S, rfl, h⟩, hb2⟩
  obtain ⟨As, ns, cs, rfl, hps, hbs, hns⟩ := h
  have h : Nv w2 (.slice As ns cs) S 4 := ⟨As, ns, cs, rfl, hps, hbs, hns⟩
  have hcs := hps.2.2.1
  have hnil := hps.2.2.2
  have hk2 := kept_trans hk1 hb2
  have X2 := Lib.hid (X1.out.below hb2)
  have S2 := Lib.hid h
  clear hb2 hk1 C1 X1 h
  have hS := S2.out
  have hlen := hS.len
  obtain ⟨_, _, _, e0, hp0, hb0, _⟩ := hS
  injection e0 with e1 e2 e3
  subst e1 e2 e3
  have HP0 := Lib.hid hp0
  have HBS := Lib.hid hb0
  have HSZ := hk2.size
  clear hp0 hb0
  go_wp2_with (at_builtin; refine wpList_app64 rfl _ _ rfl w.heap.size (l.take 4) S _ As ns cs X2.out rfl rfl HP0.out.1 HP0.out.2.1 (fun e => by have := hnil e; omega) (by rw [List.length_take]; omega) HSZ ?_; intro z w3 hz hb3; have HZ := Lib.hid hz; clear hz)
  have hk3 : Below w.heap.size w w3 := hk2.trans hb3
  have hn : Nv w3 z (l.take 4 ++ S) 8 := by
    obtain ⟨A', c', rfl, hp, _⟩ := HZ.out.pt
    exact ⟨A', _, c', rfl, hp, fun y hy => by
      rcases List.mem_append.1 hy with h | h
      · exact HLB.out y (List.mem_of_mem_take h)
      · exact HBS.out y h, by rw [List.length_append, List.length_take]; omega⟩
  have N3 := Lib.hid hn
  obtain ⟨R, hR⟩ : ∃ R, R = l.take 4 ++ S := ⟨_, rfl⟩
  rw [← hR] at N3
  clear hn hb3 hk2 hR hlen hcs hnil hns hps hbs
  go_wp2_with fail
  refine (rof_v N3.out (by omega)).mono ?_
  rintro e w4 ⟨⟨p, rfl, h⟩, hb4⟩
  have hk4 := kept_trans hk3 hb4
  have N4 := Lib.hid (N3.out.below hb4)
  have P4 := Lib.hid h
  clear hb4 hk3 N3 h
  go_wp2_with fail
  refine (rootless_v a3 w4 h31 h32).mono ?_
  rintro e w5 ⟨⟨q, s, rfl, h, hno⟩, hb5⟩
  have hk5 := kept_trans hk4 hb5
  have N5 := Lib.hid (N4.out.below hb5)
  have P5 := Lib.hid (P4.out.below hb5)
  have Q5 := Lib.hid h
  have HNO := Lib.hid hno
  clear hb5 hk4 N4 P4 h hno
  go_wp2_with fail
  refine (rmul_v P5.out.q Q5.out.q (by omega) (by omega)).mono ?_
  rintro e w6 ⟨⟨z1, rfl, h⟩, hb6⟩
  have hps := Q5.out.q.po
  have hk6 := kept_trans hk5 hb6
  have N6 := Lib.hid (N5.out.below hb6)
  have Q6 := Lib.hid (Q5.out.below hb6)
  have D6 := Lib.hid h
  have HPS := Lib.hid hps
  clear hb6 hk5 N5 P5 Q5 h hps
  go_wp2_with fail
  refine (secret_any x w6).mono ?_
  rintro e w7 ⟨⟨v, rfl, hv0, hvP⟩, hb7⟩
  have hk7 := kept_trans hk6 hb7
  have N7 := Lib.hid (N6.out.below hb7)
  have D7 := Lib.hid (D6.out.below hb7)
  clear hb7 hk6 N6 Q6 D6
  go_wp2_with fail
  refine (rscale_v D7.out.q (by omega) v).mono ?_
  rintro e w8 ⟨⟨z2, rfl, h⟩, hb8⟩
  have hk8 := kept_trans hk7 hb8
  have N8 := Lib.hid (N7.out.below hb8)
  have D8 := Lib.hid h
  clear hb8 hk7 N7 D7 h
  have HRO := Lib.hid (ro_of R s v HPS.out HNO.out hv0 hvP)
  go_wp2_with fail
  refine (roots_v D8.out.q (by omega) (ne_of_ro R s v HPS.out HNO.out hv0 hvP)).mono ?_
  rintro e w9 ⟨⟨z3, rfl, h⟩, hb9⟩
  have hk9 := kept_trans hk8 hb9
  have N9 := Lib.hid (N8.out.below hb9)
  have D9 := Lib.hid (D8.out.below hb9)
  have E9 := Lib.hid h
  clear hb9 hk8 N8 D8 h
  go_wp2_with fail
  refine (sorted_v N9.out (by omega)).mono ?_
  rintro e w10 ⟨⟨z4, rfl, h⟩, hb10⟩
  have hk10 := kept_trans hk9 hb10
  have D10 := Lib.hid (D9.out.below hb10)
  have E10 := Lib.hid (E9.out.below hb10)
  have F10 := Lib.hid h
  clear hb10 hk9 N9 D9 E9 h
  have HLEN := Lib.hid (rof_len D10.out.q (ne_of_ro R s v HPS.out HNO.out hv0 hvP) (by omega))
  go_wp2_with fail
  refine (roots_same E10.out F10.out HRO.out HLEN.out).mono ?_
  rintro e w11 ⟨rfl, hb11⟩
  have hk11 := kept_trans hk10 hb11
  clear hb11 hk10 D10 E10 F10
  go_wp2_with fail
  refine (roots0_v (Qv.nil w11 0) (by omega)).mono ?_
  rintro e w12 ⟨⟨A8, c8, rfl⟩, hb12⟩
  have hk12 := kept_trans hk11 hb12
  clear hb12 hk11
  go_wp2_with fail
  refine (roots0_v (zp_q w12) (by omega)).mono ?_
  rintro e w13 ⟨⟨A9, c9, rfl⟩, hb13⟩
  have hk13 := kept_trans hk12 (below_new hb13)
  clear hb13 hk12
  go_wp2_with fail
  refine (lives_any w13).mono ?_
  rintro e w14 ⟨rfl, hb14⟩
  have hk14 := kept_trans hk13 hb14
  clear hb14 hk13
  go_wp2
  go_ret
  exact ⟨rfl, hk14⟩

end Go.Proofs.Ytalljoneflepiaa
