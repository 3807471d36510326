/-
  Values as letters: contracts of the calls that the statements make; the document's example holds.
-/
import Derived.Test.YtcbcmnbfflaicaaSks
namespace Go.Proofs.Ytcbcmnbfflaicaa
open Go.RowKit
open Sk (pt Fit)

theorem Gl.nv_ {B d : Nat} {w : World} {o : Value} {l : List Nat} (h : Gl B w o l) (hl : ∀ y ∈ l, y < 18446744073709551616) (hd : l.length ≤ d) : Nv w o l d := by
  obtain ⟨A, c, rfl, hp, -⟩ := h.pt
  exact ⟨A, l.length, c, rfl, hp, hl, hd⟩
/-- A sketch of a set, of so many values. -/
def Kt (w : World) (A : Option Addr) (c : Nat) (l : List Nat) (n : Nat) : Prop := Pt w A n c (vls l n)
theorem Kt.below {w w' : World} {A : Option Addr} {c n : Nat} {l : List Nat} (h : Kt w A c l n) (hb : Below w.heap.size w w') : Kt w' A c l n := Pt.below h hb
theorem of_v {w : World} {o : Value} {l : List Nat} {d n : Nat} (h : Nv w o l d) (hd : d ≤ 1000) (hn : n ≤ 1000) :
    Calls Try.prog 13 #[o, .int .i64 (n : Int)] w fun e w' => (∃ A c, e = .returned (skv l.length A n c) ∧ Kt w' A c l n) ∧ Below w.heap.size w w' := by
  obtain ⟨A, m, c, rfl, hp, hl, hm⟩ := h
  refine (of_set l A m c n w hp (by omega) hl hn).mono ?_
  rintro e w' ⟨hr, hb⟩
  rw [hp.1] at hr
  rcases hr with ⟨rfl, rfl⟩ | ⟨h0, g, rfl, _, har⟩
  · exact ⟨⟨none, 0, rfl, Pt.nil w'⟩, hb⟩
  · exact ⟨⟨_, n, rfl, ⟨(vls_len _ _).symm, har.rd har.lt, Nat.le_refl _, fun e => by cases e⟩⟩, hb⟩
theorem set_v {w : World} {A : Option Addr} {n c : Nat} {l : List Nat} (h : In w A n c l) : Calls Try.prog 11 #[.slice A n c] w fun e w' => (∃ z, e = .returned z ∧ Nv w' z (setf l) 12) ∧ Below w.heap.size w w' := by
  obtain ⟨h1, h2, h3, h4, h5⟩ := h
  refine (set_any l A n c w ⟨h1, h4, h2, h5⟩ h3).mono ?_
  rintro e w' ⟨⟨z, rfl, hz⟩, hb⟩
  exact ⟨⟨z, rfl, hz.nv_ (setf_el l).big (setf_len l)⟩, hb⟩
theorem union_v {w : World} {o o' : Value} {a b : List Nat} {d d' : Nat} (h : Nv w o a d) (h' : Nv w o' b d') (hd : d ≤ 1000) (hd' : d' ≤ 1000) :
    Calls Try.prog 19 #[o, o'] w fun e w' => (∃ z, e = .returned z ∧ Nv w' z (uni a b) (d + d')) ∧ Below w.heap.size w w' := by
  obtain ⟨A, n, c, rfl, hp, hl, hn⟩ := h
  obtain ⟨A', n', c', rfl, hp', hl', hn'⟩ := h'
  refine (union_any a b A A' n c n' c' w hp hp' (by omega) (by omega) hl').mono ?_
  rintro e w' ⟨⟨z, rfl, hz⟩, hb⟩
  refine ⟨⟨z, rfl, hz.nv_ (fun y hy => ?_) ?_⟩, hb⟩
  · rcases uni_mem.1 hy with h | h
    · exact hl y h
    · exact hl' y h
  · have := uni_len a b
    have := hp.1
    have := hp'.1
    omega
theorem only_v {w : World} {o o' : Value} {a b : List Nat} {d d' : Nat} (h : Nv w o a d) (h' : Nv w o' b d') (hd : d ≤ 1000) (hd' : d' ≤ 1000) (hn : a.Nodup) :
    Calls Try.prog 20 #[o, o'] w fun e w' => (∃ A L m c, e = .returned (.slice A m c) ∧ m = L.length ∧ Nv w' (.slice A m c) L d ∧ Onl a b a.length L) ∧ Below w.heap.size w w' := by
  obtain ⟨A, n, c, rfl, hp, hl, hn1⟩ := h
  obtain ⟨A', n', c', rfl, hp', hl', hn'⟩ := h'
  refine (only_any a b A A' n c n' c' w hp hp' (by omega) (by omega) hl hn).mono ?_
  rintro e w' ⟨⟨z, L, rfl, hz, hL, hlen⟩, hb⟩
  obtain ⟨Az, cz, rfl, hpz, -⟩ := hz.pt
  exact ⟨⟨Az, L, L.length, cz, rfl, rfl, ⟨Az, _, cz, rfl, hpz, fun y hy => hl y (List.mem_of_mem_take ((hL.mem y).1 hy).1), by omega⟩, hL⟩, hb⟩
theorem same_v {w : World} {o o' : Value} {a b : List Nat} {d d' : Nat} (h : Nv w o a d) (h' : Nv w o' b d') (hd : d ≤ 1000) (hd' : d' ≤ 1000) (e : a = b) :
    Calls Try.prog 15 #[o, o'] w fun e w' => e = .returned (.bool true) ∧ Below w.heap.size w w' := by
  obtain ⟨A, n, c, rfl, hp, hl, hn⟩ := h
  obtain ⟨A', n', c', rfl, hp', hl', hn'⟩ := h'
  refine (same10_any a b A A' n c n' c' w hp.1 hp'.1 (by omega) (by omega) hp.2.1 hp'.2.1).mono ?_
  rintro e w' ⟨rfl, hb⟩
  exact ⟨by rw [decide_eq_true e], hb⟩
theorem values_v {w : World} {o : Value} {l : List Nat} {d n : Nat} (h : Nv w o l d) (hd : d ≤ 1000) (hn : n ≤ 1000) :
    Calls Try.prog 16 #[o, .int .i64 (n : Int)] w fun e w' => (∃ A c, e = .returned (.slice A n c) ∧ Kt w' A c l n) ∧ Below w.heap.size w w' := by
  obtain ⟨A, m, c, rfl, hp, hl, hm⟩ := h
  refine (values_any l A m c n w hp (by omega) hl hn).mono ?_
  rintro e w' ⟨⟨z, rfl, hz⟩, hb⟩
  obtain ⟨Az, cz, rfl, hpz, -⟩ := hz.pt
  rw [vls_len] at hpz
  exact ⟨⟨Az, cz, by rw [vls_len], hpz⟩, hb⟩
theorem Kt.nv {w : World} {A : Option Addr} {c n : Nat} {l : List Nat} (h : Kt w A c l n) : Nv w (.slice A n c) (vls l n) n := ⟨A, n, c, rfl, h, (vls_sm l n).big, Nat.le_refl _⟩

/-- Sets. -/
structure St (a : List Nat) : Prop where
  nd : a.Nodup
  el : El a
theorem st_set (l : List Nat) : St (setf l) := ⟨setf_nodup l, setf_el l⟩
theorem St.uni {a b : List Nat} (h : St a) (k : St b) : St (uni a b) := ⟨uni_nodup h.nd, fun x hx => (uni_mem.1 hx).elim (h.el x) (k.el x)⟩
/-- Of sketches that tell no more than they can: just the difference. -/
theorem diff_v {w : World} {A A' : Option Addr} {c c' n na nb : Nat} {a b x y : List Nat} (h : Kt w A c a n) (h' : Kt w A' c' b n) (ha : St a) (hb : St b) (hna : na = a.length) (hnb : nb = b.length) (hla : a.length ≤ 1000) (hlb : b.length ≤ 1000) (hn : n ≤ 1000)
    (hd : Df a b x y) (hx : x.length ≤ 12) (hy : y.length ≤ 12) (hxy : x.length + y.length + 2 ≤ n) :
    Calls Try.prog 21 #[skv na A n c, skv nb A' n c'] w fun e w' => (∃ z1 z2, e = .returned (.tuple #[z1, z2, .int .i64 0]) ∧ Nv w' z1 x 12 ∧ Nv w' z2 y 12) ∧ Below w.heap.size w w' := by
  subst hna hnb
  have hf : Fit (vls a n) (vls b n) a.length b.length x y := hd.fit ha.nd hb.nd ha.el hb.el hxy
  refine (diff_any a.length b.length n c c' A A' (vls a n) (vls b n) w h h' (vls_sm _ _) (vls_sm _ _) hn (by omega) (by omega) (vls_ne ha.el (by omega)) (.inr ⟨x, y, hf, hx, hy⟩)).mono ?_
  rintro e w' ⟨hr, hb'⟩
  rcases hr with ⟨z1, z2, p, q, B1, rfl, hz1, hz2, _, _, hfit⟩ | ⟨_, hno⟩
  · obtain ⟨rfl, rfl⟩ := fit_uniq (by rw [vls_len]; omega) (fun k hk => vls_ne ha.el (n := n) (by omega) k (by rw [vls_len] at hk; exact hk)) hfit hf
    exact ⟨⟨z1, z2, rfl, hz1.nv_ (fun y hy => by have := hfit.ep y hy; omega) hx, hz2.nv_ (fun x hx => by have := hfit.eq x hx; omega) hy⟩, hb'⟩
  · exact absurd hf (hno x y)
/-- Of sketches of up to 14 values. -/
theorem diff14_v {w : World} {A A' : Option Addr} {c c' n na nb : Nat} {a b : List Nat} (h : Kt w A c a n) (h' : Kt w A' c' b n) (ha : St a) (hna : na = a.length) (hnb : nb = b.length) (hla : a.length ≤ 1000) (hlb : b.length ≤ 1000) (hn : n ≤ 14) :
    Calls Try.prog 21 #[skv na A n c, skv nb A' n c'] w fun e w' => ((∃ Az p m k Az' q m' k', e = .returned (.tuple #[.slice Az m k, .slice Az' m' k', .int .i64 0]) ∧ m = p.length ∧ m' = q.length ∧ Nv w' (.slice Az m k) p 12 ∧ Nv w' (.slice Az' m' k') q 12 ∧ Fit (vls a n) (vls b n) na nb p q) ∨
      (e = .returned (.tuple #[.slice none 0 0, .slice none 0 0, .int .i64 32]) ∧ ∀ p q, ¬ Fit (vls a n) (vls b n) na nb p q)) ∧ Below w.heap.size w w' := by
  subst hna hnb
  refine (diff_any a.length b.length n c c' A A' (vls a n) (vls b n) w h h' (vls_sm _ _) (vls_sm _ _) (by omega) (by omega) (by omega) (vls_ne ha.el (by omega)) (.inl hn)).mono ?_
  rintro e w' ⟨hr, hb'⟩
  refine ⟨?_, hb'⟩
  rcases hr with ⟨z1, z2, p, q, B1, rfl, hz1, hz2, _, _, hfit⟩ | ⟨rfl, hno⟩
  · obtain ⟨A1, c1, rfl, hp1, -⟩ := hz1.pt
    obtain ⟨A2, c2, rfl, hp2, -⟩ := hz2.pt
    have hfew := hfit.few
    rw [vls_len] at hfew
    exact .inl ⟨A1, p, _, c1, A2, q, _, c2, rfl, rfl, rfl, ⟨A1, _, c1, rfl, hp1, fun y hy => by have := hfit.ep y hy; omega, by omega⟩, ⟨A2, _, c2, rfl, hp2, fun y hy => by have := hfit.eq y hy; omega, by omega⟩, hfit⟩
  · exact .inr ⟨rfl, hno⟩

/-! ### the document's example -/
theorem nv_lit (w : World) (l : List Nat) (n : Nat) (hn : n = l.length) (hl : ∀ y ∈ l, y < 18446744073709551616) : Nv (w.alloc (.cells (u64s l).toArray 22)) (.slice (some ⟨w.heap.size, 0, none⟩) n n) l n :=
  ⟨_, n, n, rfl, ⟨hn, rd_news w l, Nat.le_refl _, fun e => by cases e⟩, hl, Nat.le_refl _⟩
theorem st_lv1 : St [3, 5, 8] := ⟨by decide, lv_el1⟩
theorem st_lv2 : St [5, 9] := ⟨by decide, lv_el2⟩
theorem lift_alloc {w w' : World} {o : Obj} (h : Below (w.alloc o).heap.size (w.alloc o) w') : Below w.heap.size w w' := below_new h

set_option maxRecDepth 100000 in
set_option maxHeartbeats 4000000 in
theorem lives_any (w : World) : Calls Try.prog 18 #[] w fun e w' => e = .returned (.bool true) ∧ Below w.heap.size w w' := by
  have KB0 := Lib.hid (Below.refl w.heap.size w)
  have Ha : Calls Try.prog 13 #[.slice (some ⟨w.heap.size, 0, none⟩) 3 3, .int .i64 5] (w.alloc (.cells #[.int .u64 3, .int .u64 5, .int .u64 8] 22)) fun e w' => (∃ A c, e = .returned (skv 3 A 5 c) ∧ Kt w' A c [3, 5, 8] 5) ∧ Below w.heap.size w w' := (of_v (n := 5) (nv_lit w [3, 5, 8] 3 rfl (by decide)) (by omega) (by omega)).mono fun _ _ ⟨h, hb⟩ => ⟨h, below_new hb⟩
  have Ga := Lib.hid Ha
  clear Ha
  go_enter Try.func18, Try.ntmps18
  go_wp2_with fail
  refine (Ga.out).mono ?_
  rintro e w1 ⟨⟨A1, c1, rfl, hk1⟩, hb1⟩
  have KB1 := Lib.hid (KB0.out.trans (hb1.mono KB0.out.size))
  clear hb1
  have KA1 := Lib.hid hk1
  clear hk1
  have Hb : Calls Try.prog 13 #[.slice (some ⟨w1.heap.size, 0, none⟩) 2 2, .int .i64 5] (w1.alloc (.cells #[.int .u64 5, .int .u64 9] 22)) fun e w' => (∃ A c, e = .returned (skv 2 A 5 c) ∧ Kt w' A c [5, 9] 5) ∧ Below w1.heap.size w1 w' := (of_v (n := 5) (nv_lit w1 [5, 9] 2 rfl (by decide)) (by omega) (by omega)).mono fun _ _ ⟨h, hb⟩ => ⟨h, below_new hb⟩
  have Gb := Lib.hid Hb
  clear Hb
  go_wp2_with fail
  refine (Gb.out).mono ?_
  rintro e w2 ⟨⟨A2, c2, rfl, hk2⟩, hb2⟩
  have KA2 := Lib.hid (KA1.out.below hb2)
  have KB2 := Lib.hid (KB1.out.trans (hb2.mono KB1.out.size))
  clear hb2
  have KC2 := Lib.hid hk2
  clear hk2
  go_wp2_with fail
  refine (diff_v (na := 3) (nb := 2) KA2.out KC2.out st_lv1 st_lv2 rfl rfl (by decide) (by decide) (by omega) lv_df (by decide) (by decide) (by decide)).mono ?_
  rintro e w3 ⟨⟨x1, y1, rfl, hx1, hy1⟩, hb3⟩
  have KB3 := Lib.hid (KB2.out.trans (hb3.mono KB2.out.size))
  clear hb3
  have NX3 := Lib.hid hx1
  have NY3 := Lib.hid hy1
  clear hx1 hy1
  have Hc : Calls Try.prog 13 #[.slice (some ⟨w3.heap.size, 0, none⟩) 3 3, .int .i64 4] (w3.alloc (.cells #[.int .u64 3, .int .u64 5, .int .u64 8] 22)) fun e w' => (∃ A c, e = .returned (skv 3 A 4 c) ∧ Kt w' A c [3, 5, 8] 4) ∧ Below w3.heap.size w3 w' := (of_v (n := 4) (nv_lit w3 [3, 5, 8] 3 rfl (by decide)) (by omega) (by omega)).mono fun _ _ ⟨h, hb⟩ => ⟨h, below_new hb⟩
  have Gc := Lib.hid Hc
  clear Hc
  go_wp2_with fail
  refine (Gc.out).mono ?_
  rintro e w4 ⟨⟨A4, c4, rfl, hk4⟩, hb4⟩
  have NX4 := Lib.hid (NX3.out.below hb4)
  have NY4 := Lib.hid (NY3.out.below hb4)
  have KB4 := Lib.hid (KB3.out.trans (hb4.mono KB3.out.size))
  clear hb4
  have KA4 := Lib.hid hk4
  clear hk4
  have Hd : Calls Try.prog 13 #[.slice (some ⟨w4.heap.size, 0, none⟩) 2 2, .int .i64 4] (w4.alloc (.cells #[.int .u64 5, .int .u64 9] 22)) fun e w' => (∃ A c, e = .returned (skv 2 A 4 c) ∧ Kt w' A c [5, 9] 4) ∧ Below w4.heap.size w4 w' := (of_v (n := 4) (nv_lit w4 [5, 9] 2 rfl (by decide)) (by omega) (by omega)).mono fun _ _ ⟨h, hb⟩ => ⟨h, below_new hb⟩
  have Gd := Lib.hid Hd
  clear Hd
  go_wp2_with fail
  refine (Gd.out).mono ?_
  rintro e w5 ⟨⟨A5, c5, rfl, hk5⟩, hb5⟩
  have NX5 := Lib.hid (NX4.out.below hb5)
  have NY5 := Lib.hid (NY4.out.below hb5)
  have KA5 := Lib.hid (KA4.out.below hb5)
  have KB5 := Lib.hid (KB4.out.trans (hb5.mono KB4.out.size))
  clear hb5
  have KC5 := Lib.hid hk5
  clear hk5
  go_wp2_with fail
  refine ((diff14_v (na := 3) (nb := 2) KA5.out KC5.out st_lv1 rfl rfl (by decide) (by decide) (by omega)).mono fun _ _ ⟨h, hb⟩ => And.intro (h.resolve_left fun ⟨_, p, _, _, _, q, _, _, _, _, _, _, _, hf⟩ => lv_no p q hf).1 hb).mono ?_
  rintro e w6 ⟨rfl, hb6⟩
  have NX6 := Lib.hid (NX5.out.below hb6)
  have NY6 := Lib.hid (NY5.out.below hb6)
  have KB6 := Lib.hid (KB5.out.trans (hb6.mono KB5.out.size))
  clear hb6
  have hsx : Calls Try.prog 15 #[x1, .slice (some ⟨w6.heap.size, 0, none⟩) 2 2] (w6.alloc (.cells #[.int .u64 3, .int .u64 8] 22)) fun e w' => e = .returned (.bool true) ∧ Below w6.heap.size w6 w' := (same_v (NX6.out.new _) (nv_lit w6 [3, 8] 2 rfl (by decide)) (by omega) (by omega) rfl).mono fun _ _ ⟨h, hb⟩ => ⟨h, below_new hb⟩
  have HSX := Lib.hid hsx
  clear hsx
  go_wp2_with fail
  refine (HSX.out).mono ?_
  rintro e w7 ⟨rfl, hb7⟩
  have NX7 := Lib.hid (NX6.out.below hb7)
  have NY7 := Lib.hid (NY6.out.below hb7)
  have KB7 := Lib.hid (KB6.out.trans (hb7.mono KB6.out.size))
  clear hb7
  have hsy : Calls Try.prog 15 #[y1, .slice (some ⟨w7.heap.size, 0, none⟩) 1 1] (w7.alloc (.cells #[.int .u64 9] 22)) fun e w' => e = .returned (.bool true) ∧ Below w7.heap.size w7 w' := (same_v (NY7.out.new _) (nv_lit w7 [9] 1 rfl (by decide)) (by omega) (by omega) rfl).mono fun _ _ ⟨h, hb⟩ => ⟨h, below_new hb⟩
  have HSY := Lib.hid hsy
  clear hsy
  go_wp2_with fail
  refine (HSY.out).mono ?_
  rintro e w8 ⟨rfl, hb8⟩
  have NX8 := Lib.hid (NX7.out.below hb8)
  have NY8 := Lib.hid (NY7.out.below hb8)
  have KB8 := Lib.hid (KB7.out.trans (hb8.mono KB7.out.size))
  clear hb8
  go_wp2
  go_ret
  exact ⟨rfl, KB8.out⟩
end Go.Proofs.Ytcbcmnbfflaicaa
