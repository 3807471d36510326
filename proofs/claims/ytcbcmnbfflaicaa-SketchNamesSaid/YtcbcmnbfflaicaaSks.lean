/-
  The statements' rises, and Fit of lists that fit: true; what was there is left as it was.
-/
import Derived.Test.YtcbcmnbfflaicaaSkq
import Derived.Deep.RegionHeld3
namespace Go.Proofs.Ytcbcmnbfflaicaa
open Go.RowKit
open Sk (pt Fit)

set_option maxHeartbeats 1000000 in
theorem rises_any (l : List Nat) (A : Option Addr) (n c : Nat) (w : World) (hp : Pt w A n c l) (hb : n ≤ 1000000) (hr : l.Pairwise (· < ·)) :
    Calls Try.prog 22 #[.slice A n c] w fun e w' => e = .returned (.bool true) ∧ Below w.heap.size w w' := by
  have HP := Lib.hid hp
  have HN := Lib.hid hp.1
  have HR := Lib.hid hr
  clear hp hr
  go_enter Try.func22, Try.ntmps22
  go_wp2
  go_loopw [3] (fun i wr => ∃ k j : Nat, i = .int .i64 ((k : Int) + 1) ∧ wr = w.drewN j) (fun i _ => n - (intOf i).toNat)
  case atStart => exact ⟨0, 0, rfl, rfl⟩
  case round =>
    obtain ⟨k, j, rfl, hwr⟩ := hrel
    have HPW : Hid (Pt wr A n c l) := Lib.hid (hwr ▸ HP.out)
    have HWR := Lib.hid hwr
    clear hwr
    by_cases hlt : k + 1 < n
    · obtain ⟨i, hi⟩ : ∃ i, i = k + 1 := ⟨_, rfl⟩
      have hik : (k : Int) + 1 = (i : Int) := by omega
      have hi1 : (i : Int) - 1 = (k : Int) := by omega
      rw [← hi] at hlt
      have hlt2 := rise_lt HR.out (i := k) (j := i) (by omega) (by have := HN.out; omega)
      obtain ⟨b, off, rfl, hbb, hc⟩ := HPW.out.at_ hlt
      obtain ⟨b2, off2, e2, _, hc2⟩ := HPW.out.at_ (k := k) (by omega)
      injection e2 with e2
      injection e2 with e2 e3
      subst e2 e3
      obtain ⟨x, hx⟩ : ∃ x, x = l[i]?.getD 0 := ⟨_, rfl⟩
      obtain ⟨y, hy⟩ : ∃ y, y = l[k]?.getD 0 := ⟨_, rfl⟩
      rw [← hx, ← hy] at hlt2
      rw [← hx] at hc
      rw [← hy] at hc2
      have q0 : (0 : Int) ≤ (k : Int) := by omega
      have q1 : (k : Int) < (n : Int) := by omega
      have q2 : (0 : Int) ≤ (i : Int) := by omega
      have q3 : (i : Int) < (n : Int) := by omega
      have t1 : ¬ (x : Int) ≤ (y : Int) := by omega
      have HI := Lib.hid hi
      clear hx hy hlt hlt2 hi
      rw [hik]
      clear hik
      go_wp2
      go_quiet (fail)
      go_wp2
      rename Nat => jq
      have hw2 : wr.drewN jq = w.drewN (j + jq) := by rw [HWR.out, World.drewN_drewN]
      have HW2 := Lib.hid hw2
      clear hw2
      go_roundw
      case rel => exact ⟨i, j + jq, by first | rfl | go_num, HW2.out⟩
      case measure => simp [intOf]; omega
    · have q1 : ¬ ((k : Int) + 1 < (n : Int)) := by omega
      have hfin : Below w.heap.size w wr := by rw [HWR.out]; exact below_drewN (Below.refl _ _) _
      have HF := Lib.hid hfin
      clear hfin hlt
      go_wp2
      go_ret
      exact ⟨rfl, HF.out⟩

set_option maxHeartbeats 1000000 in
theorem rvalue_q (l : List Nat) (A : Option Addr) (n c x : Nat) (w : World) (hp : Pt w A n c l) (hb : n ≤ 1000000) :
    Calls Try.prog 30 #[.slice A n c, .int .u64 (x : Int)] w fun e w' => e = .returned (.int .u64 ((sv l x : Nat) : Int)) ∧ ∃ m, w' = w.drewN m := by
  have HP := Lib.hid hp
  have HN := Lib.hid hp.1
  clear hp
  go_enter Try.func30, Try.ntmps30
  go_wp2
  go_loopw [5, 6] (fun v i wr => ∃ k m : Nat, k ≤ n ∧ i = .int .i64 (k : Int) ∧ v = .int .u64 ((sv (l.take k) x : Nat) : Int) ∧ wr = w.drewN m) (fun _ i _ => n - (intOf i).toNat)
  case atStart => exact ⟨0, 0, Nat.zero_le _, rfl, by rw [List.take_zero, sv_nil]; rfl, rfl⟩
  case round =>
    obtain ⟨k, m, hk, rfl, rfl, hwr⟩ := hrel
    have hvl := sv_lt (l.take k) x
    have HWR := Lib.hid hwr
    by_cases hlt : k < n
    · have hs := sv_step (l := l) (k := k) (by rw [← HN.out]; exact hlt) x
      have hP : Pt wr A n c l := hwr ▸ HP.out
      clear hwr
      obtain ⟨b, off, rfl, hbb, hc⟩ := hP.at_ hlt
      obtain ⟨y, hy⟩ : ∃ y, y = l[k]?.getD 0 := ⟨_, rfl⟩
      obtain ⟨v, hv⟩ : ∃ v, v = sv (l.take k) x := ⟨_, rfl⟩
      rw [← hy] at hs hc
      rw [← hv] at hs hvl ⊢
      have q0 : (0 : Int) ≤ (k : Int) := by omega
      have q1 : (k : Int) < (n : Int) := by omega
      have HS := Lib.hid hs
      clear hs hy hv hP
      go_wp2_with fail
      refine (rsub_any x y _).mono ?_
      rintro e w1 ⟨rfl, rfl⟩
      go_wp2_with fail
      refine (rmul_quiet v (Fld.sub x y) _).mono ?_
      rintro e w1 ⟨rfl, m2, hw1⟩
      have hw2 : w1 = w.drewN (m + m2) := by rw [hw1, HWR.out, World.drewN_drewN]
      have HW2 := Lib.hid hw2
      clear hw1 hw2
      go_wp2
      go_roundw
      case rel => exact ⟨k + 1, m + m2, hlt, by go_num, by rw [HS.out], HW2.out⟩
      case measure => simp [intOf]; omega
    · have e : k = n := by omega
      subst e
      have htk : l.take k = l := List.take_of_length_le (by have := HN.out; omega)
      rw [htk]
      obtain ⟨v, hv⟩ : ∃ v, v = sv l x := ⟨_, rfl⟩
      rw [← hv]
      have HV := Lib.hid hv
      clear hv htk hvl hwr
      go_wp2
      go_ret
      exact ⟨by rw [← HV.out]; rfl, m, HWR.out⟩

set_option maxRecDepth 100000 in
set_option maxHeartbeats 8000000 in
theorem rfit_any (na nb n c c' np cp nq cq : Nat) (A A' P Q : Option Addr) (a b p q : List Nat) (w : World) (hA : Pt w A n c a) (hA' : Pt w A' n c' b) (hn : n ≤ 1000) (hP : Pt w P np cp p) (hQ : Pt w Q nq cq q) (hf : Fit a b na nb p q) :
    Calls Try.prog 23 #[.slice P np cp, .slice Q nq cq, .int .i64 (na : Int), .slice A n c, .int .i64 (nb : Int), .slice A' n c'] w fun e w' => e = .returned (.bool true) ∧ Below w.heap.size w w' := by
  have hal : a.length = n := hA.1.symm
  have hfew : np + nq + 2 ≤ n := by have := hf.few; have := hP.1; have := hQ.1; omega
  have hmore : np + nb = nq + na := by have := hf.more; have := hP.1; have := hQ.1; omega
  have e1 : ¬ ((n : Int) - 2 < (np : Int) + (nq : Int)) := by omega
  have e2 : (np : Int) - (nq : Int) = (na : Int) - (nb : Int) := by omega
  have hvals : Vals a b p q n := vals_iff.2 (by have h := hf.vals; rw [hal] at h; exact h)
  have hg0 := gl_empty w
  have hb0 : Below w.heap.size w (w.alloc (.cells #[] 22)) := (Below.refl _ w).alloc (Nat.le_refl _) _
  have hsz0 : w.heap.size ≤ (w.alloc (.cells #[] 22)).heap.size := hb0.size
  have hel : El (p ++ q) := El.app hf.ep hf.eq
  have hnd : (p ++ q).Nodup := by
    rw [List.nodup_append]
    refine ⟨rise_nodup hf.up, rise_nodup hf.uq, fun u hu v hv e => ?_⟩
    subst e
    exact hf.ap u hu hv
  have HG0 := Lib.hid hg0
  have HB0 := Lib.hid hb0
  have HA := Lib.hid hA
  have HA' := Lib.hid hA'
  have HP := Lib.hid hP
  have HQ := Lib.hid hQ
  have HP1 := Lib.hid (hP.new (.cells #[] 22))
  have HQ1 := Lib.hid (hQ.new (.cells #[] 22))
  have HV := Lib.hid hvals
  have HEL := Lib.hid hel
  have HND := Lib.hid hnd
  have HSZ0 := Lib.hid hsz0
  clear hg0 hb0 hA hA' hP hQ hvals hel hnd hal hmore hf
  go_enter Try.func23, Try.ntmps23
  go_wp2_with (first
    | (at_builtin; refine wpList_app64 rfl _ _ rfl w.heap.size [] p _ P np cp HG0.out rfl rfl HP1.out.1 HP1.out.2.1 (fun e => ⟨HP1.out.2.2.2 e, by have h1 := HP1.out.2.2.1; have h2 := HP1.out.2.2.2 e; omega⟩) (by simp; omega) HSZ0.out ?_; intro z1 w1 hz1 hb1; have HZ1 := Lib.hid hz1; have HB1 := Lib.hid (HB0.out.trans hb1); clear hz1)
    | (at_builtin; refine wpList_app64 rfl _ _ rfl w.heap.size _ q _ Q nq cq HZ1.out rfl rfl HQ1.out.1 (HQ.out.below HB1.out).2.1 (fun e => ⟨HQ1.out.2.2.2 e, by have h1 := HQ1.out.2.2.1; have h2 := HQ1.out.2.2.2 e; omega⟩) (by rw [List.nil_append]; have := HP.out.1; omega) HB1.out.size ?_; intro z2 w2 hz2 hb2; have HZ2 := Lib.hid hz2; clear hz2))
  have hz2' := HZ2.out
  rw [List.nil_append] at hz2'
  obtain ⟨Az, cz, rfl, hpz, -⟩ := hz2'.pt
  have hzl : (p ++ q).length = np + nq := by rw [List.length_append]; have := HP.out.1; have := HQ.out.1; omega
  obtain ⟨t, ht⟩ : ∃ t, t = np + nq := ⟨_, rfl⟩
  rw [hzl, ← ht] at hpz ⊢
  have ht1 : t ≤ 1000 := by omega
  have HB2 := Lib.hid (HB1.out.trans hb2)
  have HPZ := Lib.hid hpz
  have hncz := hpz.2.2.1
  clear hz2' hpz hzl ht hb2 HG0 HB0 HZ1 HB1 HSZ0 HP1 HQ1 hb1
  go_loopw [14] (fun i wr => ∃ k j : Nat, k ≤ t ∧ i = .int .i64 (k : Int) ∧ wr = w2.drewN j) (fun i _ => t - (intOf i).toNat)
  case atStart => exact ⟨0, 0, Nat.zero_le _, rfl, rfl⟩
  case round =>
    obtain ⟨k, j, hk, rfl, hwr⟩ := hrel
    have HPW : Hid (Pt wr Az t cz (p ++ q)) := Lib.hid (hwr ▸ HPZ.out)
    have HWR := Lib.hid hwr
    clear hwr
    by_cases hlt : k < t
    · obtain ⟨b0, o0, rfl, hbb, hc⟩ := HPW.out.at_ hlt
      obtain ⟨v, hv⟩ : ∃ v, v = (p ++ q)[k]?.getD 0 := ⟨_, rfl⟩
      rw [← hv] at hc
      have hkl : k < (p ++ q).length := by have := HPW.out.1; omega
      have hvm : v ∈ p ++ q := by rw [hv, List.getElem?_eq_getElem hkl]; exact List.getElem_mem _
      have hvel := HEL.out v hvm
      have hnin : v ∉ (p ++ q).take k := fun hm => by
        have h3 : ((p ++ q).take (k + 1)).Nodup := List.Nodup.sublist (List.take_sublist _ _) HND.out
        rw [take_snoc hkl, List.nodup_append] at h3
        exact h3.2.2 v hm ((p ++ q)[k]?.getD 0) (by simp) hv
      have hpk : Pt wr.drew (some ⟨b0, o0, none⟩) k cz ((p ++ q).take k) := by
        have h := HPW.out
        exact ⟨by rw [List.length_take]; omega, h.2.1.take k, by omega, fun e => by cases e⟩
      have hhas := has_any ((p ++ q).take k) (some ⟨b0, o0, none⟩) k cz v wr.drew hpk (by omega)
      rw [decide_eq_false hnin] at hhas
      have hsl := slice_head 25 (by kernel_rfl) (fun W => by kernel_rfl) (some ⟨b0, o0, none⟩) t cz k (by omega)
      have q0 : (0 : Int) ≤ (k : Int) := by omega
      have q1 : (k : Int) < (t : Int) := by omega
      have d1 : decide ((v : Int) < 1) = false := decide_eq_false (by omega)
      have d2 : decide ((1152921504606846976 : Int) < (v : Int)) = false := decide_eq_false (by omega)
      have HH := Lib.hid hhas
      clear hv hkl hvm hvel hnin hpk hhas
      have k0 := And.intro hc (hsl wr)
      have k1 : wr.drew.cell? ⟨b0, o0 + k, none⟩ = some (.int .u64 (v : Int)) ∧ (Instr.slice 25 (.slice (some ⟨b0, o0, none⟩) t cz) none (some (.int .i64 (k : Int))) none).run Try.prog wr.drew = .ok (.slice (some ⟨b0, o0, none⟩) k cz) wr.drew := ⟨hc, hsl wr.drew⟩
      clear hsl
      go_wp2
      refine wp_region_held_drew (S := (fun w' : World => w'.cell? ⟨b0, o0 + k, none⟩ = some (.int .u64 (v : Int)) ∧ (Instr.slice 25 (.slice (some ⟨b0, o0, none⟩) t cz) none (some (.int .i64 (k : Int))) none).run Try.prog w' = .ok (.slice (some ⟨b0, o0, none⟩) k cz) w')) (by kernel_rfl) k1 (fun hHeld => ?_)
      try simp only [Act.put, List.getElem_toArray, List.getElem_cons_succ, List.getElem_cons_zero, List.setIfInBounds_toArray, List.set_cons_zero, List.set_cons_succ]
      refine wpAnyH_take (i := 0) (v := ?_) rfl (by kernel_rfl) (by kernel_rfl) (by kernel_rfl) (fun _ _ _ h => h) (Or.inl ⟨by rfl, ?_⟩) (by assumption) ?_
      rotate_left
      · (intro w hSw; (try dsimp only at hSw); obtain ⟨s0, s1⟩ := hSw; go_simp; try (with_reducible rfl))
      try simp only [Act.put, List.getElem_toArray, List.getElem_cons_zero, List.setIfInBounds_toArray, List.set_cons_zero, List.set_cons_succ]
      refine wpAnyH_take (i := 1) (v := ?_) rfl (by kernel_rfl) (by kernel_rfl) (by kernel_rfl) (fun _ _ _ h => h) (Or.inl ⟨by rfl, ?_⟩) (by assumption) ?_
      rotate_left
      · (intro w hSw; (try dsimp only at hSw); obtain ⟨s0, s1⟩ := hSw; go_simp; try (with_reducible rfl))
      try simp only [Act.put, List.getElem_toArray, List.getElem_cons_succ, List.getElem_cons_zero, List.setIfInBounds_toArray, List.set_cons_zero, List.set_cons_succ]
      refine wpAnyH_take (i := 2) (v := ?_) rfl (by kernel_rfl) (by kernel_rfl) (by kernel_rfl) (fun _ _ _ h => h) (Or.inl ⟨by rfl, ?_⟩) (by assumption) ?_
      rotate_left
      · (intro w hSw; (try dsimp only at hSw); obtain ⟨s0, s1⟩ := hSw; go_simp; try (with_reducible rfl))
      try simp only [Act.put, List.getElem_toArray, List.getElem_cons_succ, List.getElem_cons_zero, List.setIfInBounds_toArray, List.set_cons_zero, List.set_cons_succ]
      refine wpAnyH_take (i := 3) (v := ?_) rfl (by kernel_rfl) (by kernel_rfl) (by kernel_rfl) (fun _ _ _ h => h) (Or.inl ⟨by rfl, ?_⟩) (by assumption) ?_
      rotate_left
      · (intro w hSw; (try dsimp only at hSw); obtain ⟨s0, s1⟩ := hSw; go_simp; try (with_reducible rfl))
      try simp only [Act.put, List.getElem_toArray, List.getElem_cons_succ, List.getElem_cons_zero, List.setIfInBounds_toArray, List.set_cons_zero, List.set_cons_succ]
      refine wpAnyH_take (i := 4) (v := ?_) rfl (by kernel_rfl) (by kernel_rfl) (by kernel_rfl) (fun _ _ _ h => h) (Or.inl ⟨by rfl, ?_⟩) (by assumption) ?_
      rotate_left
      · (intro w hSw; (try dsimp only at hSw); obtain ⟨s0, s1⟩ := hSw; go_simp; try (with_reducible rfl))
      try simp only [Act.put, List.getElem_toArray, List.getElem_cons_succ, List.getElem_cons_zero, List.setIfInBounds_toArray, List.set_cons_zero, List.set_cons_succ]
      refine wpAnyH_take (i := 5) (v := ?_) rfl (by kernel_rfl) (by kernel_rfl) (by kernel_rfl) (fun _ _ _ h => h) (Or.inl ⟨by rfl, ?_⟩) (by assumption) ?_
      rotate_left
      · (intro w hSw; (try dsimp only at hSw); obtain ⟨s0, s1⟩ := hSw; go_simp; try (with_reducible rfl))
      try simp only [Act.put, List.getElem_toArray, List.getElem_cons_succ, List.getElem_cons_zero, List.setIfInBounds_toArray, List.set_cons_zero, List.set_cons_succ]
      refine wpAnyH_take (i := 6) (v := ?_) rfl (by kernel_rfl) (by kernel_rfl) (by kernel_rfl) (fun _ _ _ h => h) (Or.inl ⟨by rfl, ?_⟩) (by assumption) ?_
      rotate_left
      · (intro w hSw; (try dsimp only at hSw); obtain ⟨s0, s1⟩ := hSw; go_simp; try (with_reducible rfl))
      try simp only [Act.put, List.getElem_toArray, List.getElem_cons_succ, List.getElem_cons_zero, List.setIfInBounds_toArray, List.set_cons_zero, List.set_cons_succ]
      refine wpAnyH_take (i := 7) (v := ?_) rfl (by kernel_rfl) (by kernel_rfl) (by kernel_rfl) (fun _ _ _ h => h) (Or.inl ⟨by rfl, ?_⟩) (by assumption) ?_
      rotate_left
      · (intro w hSw; (try dsimp only at hSw); obtain ⟨s0, s1⟩ := hSw; go_simp; try (with_reducible rfl))
      try simp only [Act.put, List.getElem_toArray, List.getElem_cons_succ, List.getElem_cons_zero, List.setIfInBounds_toArray, List.set_cons_zero, List.set_cons_succ]
      refine wpAnyH_take (i := 8) (v := ?_) rfl (by kernel_rfl) (by kernel_rfl) (by kernel_rfl) (fun _ _ _ h => h) (Or.inl ⟨by rfl, ?_⟩) (by assumption) ?_
      rotate_left
      · (intro w hSw; (try dsimp only at hSw); obtain ⟨s0, s1⟩ := hSw; go_simp; try (with_reducible rfl))
      try simp only [Act.put, List.getElem_toArray, List.getElem_cons_succ, List.getElem_cons_zero, List.setIfInBounds_toArray, List.set_cons_zero, List.set_cons_succ]
      refine wpAnyH_take (i := 9) (v := ?_) rfl (by kernel_rfl) (by kernel_rfl) (by kernel_rfl) (fun _ _ _ h => h) (Or.inl ⟨by rfl, ?_⟩) (by assumption) ?_
      rotate_left
      · (intro w hSw; (try dsimp only at hSw); obtain ⟨s0, s1⟩ := hSw; go_simp; try (with_reducible rfl))
      try simp only [Act.put, List.getElem_toArray, List.getElem_cons_succ, List.getElem_cons_zero, List.setIfInBounds_toArray, List.set_cons_zero, List.set_cons_succ]
      refine wpAnyH_take (i := 10) (v := ?_) rfl (by kernel_rfl) (by kernel_rfl) (by kernel_rfl) (fun _ _ _ h => h) (Or.inl ⟨by rfl, ?_⟩) (by assumption) ?_
      rotate_left
      · (intro w hSw; (try dsimp only at hSw); obtain ⟨s0, s1⟩ := hSw; go_simp; try (with_reducible rfl))
      try simp only [Act.put, List.getElem_toArray, List.getElem_cons_succ, List.getElem_cons_zero, List.setIfInBounds_toArray, List.set_cons_zero, List.set_cons_succ]
      refine wpAnyH_take (i := 11) (v := ?_) rfl (by kernel_rfl) (by kernel_rfl) (by kernel_rfl) (fun _ _ _ h => h) (Or.inl ⟨by rfl, ?_⟩) (by assumption) ?_
      rotate_left
      · (intro w hSw; (try dsimp only at hSw); obtain ⟨s0, s1⟩ := hSw; go_simp; try (with_reducible rfl))
      try simp only [Act.put, List.getElem_toArray, List.getElem_cons_succ, List.getElem_cons_zero, List.setIfInBounds_toArray, List.set_cons_zero, List.set_cons_succ]
      refine wpAnyH_take (i := 12) (v := ?_) rfl (by kernel_rfl) (by kernel_rfl) (by kernel_rfl) (fun _ _ _ h => h) (Or.inl ⟨by rfl, ?_⟩) (by assumption) ?_
      rotate_left
      · (intro w hSw; (try dsimp only at hSw); obtain ⟨s0, s1⟩ := hSw; go_simp; try (with_reducible rfl))
      try simp only [Act.put, List.getElem_toArray, List.getElem_cons_succ, List.getElem_cons_zero, List.setIfInBounds_toArray, List.set_cons_zero, List.set_cons_succ]
      refine wpAnyH_take (i := 13) (v := ?_) rfl (by kernel_rfl) (by kernel_rfl) (by kernel_rfl) (fun _ _ _ h => h) (Or.inl ⟨by rfl, ?_⟩) (by assumption) ?_
      rotate_left
      · (intro w hSw; (try dsimp only at hSw); obtain ⟨s0, s1⟩ := hSw; go_simp; try (with_reducible rfl))
      try simp only [Act.put, List.getElem_toArray, List.getElem_cons_succ, List.getElem_cons_zero, List.setIfInBounds_toArray, List.set_cons_zero, List.set_cons_succ]
      refine wpAnyH_take (i := 14) (v := ?_) rfl (by kernel_rfl) (by kernel_rfl) (by kernel_rfl) (fun _ _ _ h => h) (Or.inl ⟨by rfl, ?_⟩) (by assumption) ?_
      rotate_left
      · (intro w hSw; (try dsimp only at hSw); obtain ⟨s0, s1⟩ := hSw; go_simp; try (with_reducible rfl))
      try simp only [Act.put, List.getElem_toArray, List.getElem_cons_succ, List.getElem_cons_zero, List.setIfInBounds_toArray, List.set_cons_zero, List.set_cons_succ]
      refine wpAnyH_take (i := 15) (v := ?_) rfl (by kernel_rfl) (by kernel_rfl) (by kernel_rfl) (fun _ _ _ h => h) (Or.inl ⟨by rfl, ?_⟩) (by assumption) ?_
      rotate_left
      · (intro w hSw; (try dsimp only at hSw); obtain ⟨s0, s1⟩ := hSw; go_simp; try (with_reducible rfl))
      try simp only [Act.put, List.getElem_toArray, List.getElem_cons_succ, List.getElem_cons_zero, List.setIfInBounds_toArray, List.set_cons_zero, List.set_cons_succ]
      refine wpAnyH_take (i := 16) (v := ?_) rfl (by kernel_rfl) (by kernel_rfl) (by kernel_rfl) (fun _ _ _ h => h) (Or.inl ⟨by rfl, ?_⟩) (by assumption) ?_
      rotate_left
      · (intro w hSw; (try dsimp only at hSw); obtain ⟨s0, s1⟩ := hSw; go_simp; try (with_reducible rfl))
      try simp only [Act.put, List.getElem_toArray, List.getElem_cons_succ, List.getElem_cons_zero, List.setIfInBounds_toArray, List.set_cons_zero, List.set_cons_succ]
      refine wpAnyH_take (i := 17) (v := ?_) rfl (by kernel_rfl) (by kernel_rfl) (by kernel_rfl) (fun _ _ _ h => h) (Or.inl ⟨by rfl, ?_⟩) (by assumption) ?_
      rotate_left
      · (intro w hSw; (try dsimp only at hSw); obtain ⟨s0, s1⟩ := hSw; go_simp; try (with_reducible rfl))
      try simp only [Act.put, List.getElem_toArray, List.getElem_cons_succ, List.getElem_cons_zero, List.setIfInBounds_toArray, List.set_cons_zero, List.set_cons_succ]
      refine wpAnyH_take (i := 18) (v := ?_) rfl (by kernel_rfl) (by kernel_rfl) (by kernel_rfl) (fun _ _ _ h => h) (Or.inl ⟨by rfl, ?_⟩) (by assumption) ?_
      rotate_left
      · (intro w hSw; (try dsimp only at hSw); obtain ⟨s0, s1⟩ := hSw; go_simp; try (with_reducible rfl))
      try simp only [Act.put, List.getElem_toArray, List.getElem_cons_succ, List.getElem_cons_zero, List.setIfInBounds_toArray, List.set_cons_zero, List.set_cons_succ]
      refine wpAnyH_take (i := 19) (v := ?_) rfl (by kernel_rfl) (by kernel_rfl) (by kernel_rfl) (fun _ _ _ h => h) (Or.inl ⟨by rfl, ?_⟩) (by assumption) ?_
      rotate_left
      · (intro w hSw; (try dsimp only at hSw); obtain ⟨s0, s1⟩ := hSw; go_simp; try (with_reducible rfl))
      try simp only [Act.put, List.getElem_toArray, List.getElem_cons_succ, List.getElem_cons_zero, List.setIfInBounds_toArray, List.set_cons_zero, List.set_cons_succ]
      refine wpAnyH_ready (rs := [20]) (by kernel_rfl) (by simp) ?_
      refine AllReadyH.cons rfl (fun K hK => ?_) AllReadyH.nil
      go_simp
      refine HH.out.mono ?_
      rintro e w3 ⟨rfl, rfl⟩
      try go_simp
      refine hK.out _ _ k1 (fun hHeld1 => ?_)
      clear hK K
      try simp only [Act.put, List.getElem_toArray, List.getElem_cons_succ, List.getElem_cons_zero, List.setIfInBounds_toArray, List.set_cons_zero, List.set_cons_succ]
      refine wpAnyH_take (i := 21) (v := ?_) rfl (by kernel_rfl) (by kernel_rfl) (by kernel_rfl) (fun _ _ _ h => h) (Or.inl ⟨by rfl, ?_⟩) (by assumption) ?_
      rotate_left
      · (intro w hSw; (try dsimp only at hSw); obtain ⟨s0, s1⟩ := hSw; go_simp; try (with_reducible rfl))
      try simp only [Act.put, List.getElem_toArray, List.getElem_cons_succ, List.getElem_cons_zero, List.setIfInBounds_toArray, List.set_cons_zero, List.set_cons_succ]
      refine wpAnyH_done (by kernel_rfl) ?_ _
      clear hHeld hHeld1
      go_wp2
      have hw2 : wr.drew = w2.drewN (j + 1) := by rw [HWR.out]; rfl
      have HW2 := Lib.hid hw2
      clear hw2
      go_roundw
      case rel => exact ⟨k + 1, j + 1, hlt, by go_num, HW2.out⟩
      case measure => simp [intOf]; omega
    · have e : k = t := by omega
      subst e
      have hbw : Below w.heap.size w wr := by rw [HWR.out]; exact below_drewN HB2.out j
      have HBW := Lib.hid hbw
      clear hbw HPW HWR HPZ
      rename World => wo
      go_wp2
      go_loopw [15] (fun i wr => ∃ k j : Nat, k ≤ n ∧ i = .int .i64 (k : Int) ∧ wr = wo.drewN j) (fun i _ => n - (intOf i).toNat)
      case atStart => exact ⟨0, 0, Nat.zero_le _, rfl, rfl⟩
      case round =>
        rename World => wy
        obtain ⟨i, j, hi, rfl, hwy⟩ := hrel
        have hby : Below w.heap.size w wy := by rw [hwy]; exact below_drewN HBW.out j
        have HWY := Lib.hid hwy
        have HBY := Lib.hid hby
        by_cases hlt : i < n
        · have hPa := HA.out.below hby
          have hPb := HA'.out.below hby
          obtain ⟨oa, fa, rfl, hoa, hca⟩ := hPa.at_ hlt
          obtain ⟨ob, fb, rfl, hob, hcb⟩ := hPb.at_ hlt
          obtain ⟨x, hxe⟩ : ∃ x, x = pt i := ⟨_, rfl⟩
          have hpt : ∀ r, Calls Try.prog 31 #[.int .i64 (i : Int)] (wy.drewN r) fun e w' => e = .returned (.int .u64 (x : Int)) ∧ ∃ m, w' = wy.drewN m := fun r => (rpoint_any i (by omega) _).mono fun _ _ ⟨h1, h2⟩ => ⟨by rw [h1, hxe], r, h2.symm⟩
          have hvq : ∀ r, Calls Try.prog 30 #[.slice Q nq cq, .int .u64 (x : Int)] (wy.drewN r) fun e w' => e = .returned (.int .u64 ((sv q x : Nat) : Int)) ∧ ∃ m, w' = wy.drewN m := fun r => (rvalue_q q Q nq cq x (wy.drewN r) (HQ.out.below (below_drewN hby r)) (by omega)).mono fun _ _ ⟨h1, m, h2⟩ => ⟨h1, r + m, by rw [h2, World.drewN_drewN]⟩
          have hvp : ∀ r, Calls Try.prog 30 #[.slice P np cp, .int .u64 (x : Int)] (wy.drewN r) fun e w' => e = .returned (.int .u64 ((sv p x : Nat) : Int)) ∧ ∃ m, w' = wy.drewN m := fun r => (rvalue_q p P np cp x (wy.drewN r) (HP.out.below (below_drewN hby r)) (by omega)).mono fun _ _ ⟨h1, m, h2⟩ => ⟨h1, r + m, by rw [h2, World.drewN_drewN]⟩
          obtain ⟨ak, hak⟩ : ∃ ak, ak = a[i]?.getD 0 := ⟨_, rfl⟩
          obtain ⟨bk, hbk⟩ : ∃ bk, bk = b[i]?.getD 0 := ⟨_, rfl⟩
          obtain ⟨vq, hvqe⟩ : ∃ vq, vq = sv q x := ⟨_, rfl⟩
          obtain ⟨vp, hvpe⟩ : ∃ vp, vp = sv p x := ⟨_, rfl⟩
          rw [← hak] at hca
          rw [← hbk] at hcb
          simp only [← hvqe] at hvq
          simp only [← hvpe] at hvp
          obtain ⟨ma, hma⟩ : ∃ ma, ma = Fld.mul ak vq := ⟨_, rfl⟩
          have hmb : Fld.mul bk vp = ma := by
            have h := HV.out i hlt
            rw [hma, hak, hbk, hvqe, hvpe, hxe]
            exact h.symm
          have h1 : ∀ r, Calls Try.prog 36 #[.int .u64 (ak : Int), .int .u64 (vq : Int)] (wy.drewN r) fun e w' => e = .returned (.int .u64 (ma : Int)) ∧ ∃ m, w' = wy.drewN m := fun r => (rmul_quiet ak vq _).mono fun _ _ ⟨h1, m, h2⟩ => ⟨by rw [h1, hma], r + m, by rw [h2, World.drewN_drewN]⟩
          have h2 : ∀ r, Calls Try.prog 36 #[.int .u64 (bk : Int), .int .u64 (vp : Int)] (wy.drewN r) fun e w' => e = .returned (.int .u64 (ma : Int)) ∧ ∃ m, w' = wy.drewN m := fun r => (rmul_quiet bk vp _).mono fun _ _ ⟨h1, m, h2⟩ => ⟨by rw [h1, hmb], r + m, by rw [h2, World.drewN_drewN]⟩
          have q0 : (0 : Int) ≤ (i : Int) := by omega
          have q1 : (i : Int) < (n : Int) := by omega
          have H1 := Lib.hid h1
          have H2 := Lib.hid h2
          have HVQ := Lib.hid hvq
          have HVP := Lib.hid hvp
          have HPT := Lib.hid hpt
          clear h1 h2 hvq hvp hpt hak hbk hvqe hvpe hma hmb hxe hPa hPb hwy hby
          go_wp2
          have kk0 : wy.drew.cell? ⟨oa, fa + i, none⟩ = some (.int .u64 (ak : Int)) ∧ wy.drew.cell? ⟨ob, fb + i, none⟩ = some (.int .u64 (bk : Int)) := ⟨hca, hcb⟩
          refine wp_region_held_drew (S := (fun w' : World => w'.cell? ⟨oa, fa + i, none⟩ = some (.int .u64 (ak : Int)) ∧ w'.cell? ⟨ob, fb + i, none⟩ = some (.int .u64 (bk : Int)))) (by kernel_rfl) kk0 (fun hHeld => ?_)
          try simp only [Act.put, List.getElem_toArray, List.getElem_cons_succ, List.getElem_cons_zero, List.setIfInBounds_toArray, List.set_cons_zero, List.set_cons_succ]
          refine wpAnyH_take (i := 0) (v := ?_) rfl (by kernel_rfl) (by kernel_rfl) (by kernel_rfl) (fun _ _ _ h => h) (Or.inl ⟨by rfl, ?_⟩) (by assumption) ?_
          rotate_left
          · (intro w hSw; (try dsimp only at hSw); obtain ⟨s0, s1⟩ := hSw; go_simp; try (with_reducible rfl))
          try simp only [Act.put, List.getElem_toArray, List.getElem_cons_zero, List.setIfInBounds_toArray, List.set_cons_zero, List.set_cons_succ]
          refine wpAnyH_take (i := 1) (v := ?_) rfl (by kernel_rfl) (by kernel_rfl) (by kernel_rfl) (fun _ _ _ h => h) (Or.inl ⟨by rfl, ?_⟩) (by assumption) ?_
          rotate_left
          · (intro w hSw; (try dsimp only at hSw); obtain ⟨s0, s1⟩ := hSw; go_simp; try (with_reducible rfl))
          try simp only [Act.put, List.getElem_toArray, List.getElem_cons_succ, List.getElem_cons_zero, List.setIfInBounds_toArray, List.set_cons_zero, List.set_cons_succ]
          refine wpAnyH_take (i := 2) (v := ?_) rfl (by kernel_rfl) (by kernel_rfl) (by kernel_rfl) (fun _ _ _ h => h) (Or.inl ⟨by rfl, ?_⟩) (by assumption) ?_
          rotate_left
          · (intro w hSw; (try dsimp only at hSw); obtain ⟨s0, s1⟩ := hSw; go_simp; try (with_reducible rfl))
          try simp only [Act.put, List.getElem_toArray, List.getElem_cons_succ, List.getElem_cons_zero, List.setIfInBounds_toArray, List.set_cons_zero, List.set_cons_succ]
          refine wpAnyH_take (i := 3) (v := ?_) rfl (by kernel_rfl) (by kernel_rfl) (by kernel_rfl) (fun _ _ _ h => h) (Or.inl ⟨by rfl, ?_⟩) (by assumption) ?_
          rotate_left
          · (intro w hSw; (try dsimp only at hSw); obtain ⟨s0, s1⟩ := hSw; go_simp; try (with_reducible rfl))
          try simp only [Act.put, List.getElem_toArray, List.getElem_cons_succ, List.getElem_cons_zero, List.setIfInBounds_toArray, List.set_cons_zero, List.set_cons_succ]
          refine wpAnyH_take (i := 4) (v := ?_) rfl (by kernel_rfl) (by kernel_rfl) (by kernel_rfl) (fun _ _ _ h => h) (Or.inl ⟨by rfl, ?_⟩) (by assumption) ?_
          rotate_left
          · (intro w hSw; (try dsimp only at hSw); obtain ⟨s0, s1⟩ := hSw; go_simp; try (with_reducible rfl))
          try simp only [Act.put, List.getElem_toArray, List.getElem_cons_succ, List.getElem_cons_zero, List.setIfInBounds_toArray, List.set_cons_zero, List.set_cons_succ]
          refine wpAnyH_take (i := 5) (v := ?_) rfl (by kernel_rfl) (by kernel_rfl) (by kernel_rfl) (fun _ _ _ h => h) (Or.inl ⟨by rfl, ?_⟩) (by assumption) ?_
          rotate_left
          · (intro w hSw; (try dsimp only at hSw); obtain ⟨s0, s1⟩ := hSw; go_simp; try (with_reducible rfl))
          try simp only [Act.put, List.getElem_toArray, List.getElem_cons_succ, List.getElem_cons_zero, List.setIfInBounds_toArray, List.set_cons_zero, List.set_cons_succ]
          refine wpAnyH_take (i := 9) (v := ?_) rfl (by kernel_rfl) (by kernel_rfl) (by kernel_rfl) (fun _ _ _ h => h) (Or.inl ⟨by rfl, ?_⟩) (by assumption) ?_
          rotate_left
          · (intro w hSw; (try dsimp only at hSw); obtain ⟨s0, s1⟩ := hSw; go_simp; try (with_reducible rfl))
          try simp only [Act.put, List.getElem_toArray, List.getElem_cons_succ, List.getElem_cons_zero, List.setIfInBounds_toArray, List.set_cons_zero, List.set_cons_succ]
          refine wpAnyH_take (i := 10) (v := ?_) rfl (by kernel_rfl) (by kernel_rfl) (by kernel_rfl) (fun _ _ _ h => h) (Or.inl ⟨by rfl, ?_⟩) (by assumption) ?_
          rotate_left
          · (intro w hSw; (try dsimp only at hSw); obtain ⟨s0, s1⟩ := hSw; go_simp; try (with_reducible rfl))
          try simp only [Act.put, List.getElem_toArray, List.getElem_cons_succ, List.getElem_cons_zero, List.setIfInBounds_toArray, List.set_cons_zero, List.set_cons_succ]
          refine wpAnyH_take (i := 11) (v := ?_) rfl (by kernel_rfl) (by kernel_rfl) (by kernel_rfl) (fun _ _ _ h => h) (Or.inl ⟨by rfl, ?_⟩) (by assumption) ?_
          rotate_left
          · (intro w hSw; (try dsimp only at hSw); obtain ⟨s0, s1⟩ := hSw; go_simp; try (with_reducible rfl))
          try simp only [Act.put, List.getElem_toArray, List.getElem_cons_succ, List.getElem_cons_zero, List.setIfInBounds_toArray, List.set_cons_zero, List.set_cons_succ]
          refine wpAnyH_take (i := 12) (v := ?_) rfl (by kernel_rfl) (by kernel_rfl) (by kernel_rfl) (fun _ _ _ h => h) (Or.inl ⟨by rfl, ?_⟩) (by assumption) ?_
          rotate_left
          · (intro w hSw; (try dsimp only at hSw); obtain ⟨s0, s1⟩ := hSw; go_simp; try (with_reducible rfl))
          try simp only [Act.put, List.getElem_toArray, List.getElem_cons_succ, List.getElem_cons_zero, List.setIfInBounds_toArray, List.set_cons_zero, List.set_cons_succ]
          refine wpAnyH_take (i := 13) (v := ?_) rfl (by kernel_rfl) (by kernel_rfl) (by kernel_rfl) (fun _ _ _ h => h) (Or.inl ⟨by rfl, ?_⟩) (by assumption) ?_
          rotate_left
          · (intro w hSw; (try dsimp only at hSw); obtain ⟨s0, s1⟩ := hSw; go_simp; try (with_reducible rfl))
          try simp only [Act.put, List.getElem_toArray, List.getElem_cons_succ, List.getElem_cons_zero, List.setIfInBounds_toArray, List.set_cons_zero, List.set_cons_succ]
          refine wpAnyH_take (i := 14) (v := ?_) rfl (by kernel_rfl) (by kernel_rfl) (by kernel_rfl) (fun _ _ _ h => h) (Or.inl ⟨by rfl, ?_⟩) (by assumption) ?_
          rotate_left
          · (intro w hSw; (try dsimp only at hSw); obtain ⟨s0, s1⟩ := hSw; go_simp; try (with_reducible rfl))
          try simp only [Act.put, List.getElem_toArray, List.getElem_cons_succ, List.getElem_cons_zero, List.setIfInBounds_toArray, List.set_cons_zero, List.set_cons_succ]
          refine wpAnyH_ready (rs := [6]) (by kernel_rfl) (by simp) ?_
          refine AllReadyH.cons rfl (fun K hK => ?_) AllReadyH.nil
          go_simp
          refine (HPT.out _).mono ?_
          rintro e w11 ⟨rfl, m1, hw1⟩
          try go_simp
          have kk1 : w11.cell? ⟨oa, fa + i, none⟩ = some (.int .u64 (ak : Int)) ∧ w11.cell? ⟨ob, fb + i, none⟩ = some (.int .u64 (bk : Int)) := hw1 ▸ ⟨hca, hcb⟩
          have HQ1 := Lib.hid hw1
          subst hw1
          refine hK.out _ _ kk1 (fun hHeld1 => ?_)
          clear hK K
          try simp only [Act.put, List.getElem_toArray, List.getElem_cons_succ, List.getElem_cons_zero, List.setIfInBounds_toArray, List.set_cons_zero, List.set_cons_succ]
          refine wpAnyH_ready (rs := [7]) (by kernel_rfl) (by simp) ?_
          refine AllReadyH.cons rfl (fun K hK => ?_) AllReadyH.nil
          go_simp
          refine (HVQ.out _).mono ?_
          rintro e w12 ⟨rfl, m2, hw2⟩
          try go_simp
          have kk2 : w12.cell? ⟨oa, fa + i, none⟩ = some (.int .u64 (ak : Int)) ∧ w12.cell? ⟨ob, fb + i, none⟩ = some (.int .u64 (bk : Int)) := hw2 ▸ ⟨hca, hcb⟩
          have HQ2 := Lib.hid hw2
          subst hw2
          refine hK.out _ _ kk2 (fun hHeld2 => ?_)
          clear hK K
          try simp only [Act.put, List.getElem_toArray, List.getElem_cons_succ, List.getElem_cons_zero, List.setIfInBounds_toArray, List.set_cons_zero, List.set_cons_succ]
          refine wpAnyH_ready (rs := [8]) (by kernel_rfl) (by simp) ?_
          refine AllReadyH.cons rfl (fun K hK => ?_) AllReadyH.nil
          go_simp
          refine (H1.out _).mono ?_
          rintro e w13 ⟨rfl, m3, hw3⟩
          try go_simp
          have kk3 : w13.cell? ⟨oa, fa + i, none⟩ = some (.int .u64 (ak : Int)) ∧ w13.cell? ⟨ob, fb + i, none⟩ = some (.int .u64 (bk : Int)) := hw3 ▸ ⟨hca, hcb⟩
          have HQ3 := Lib.hid hw3
          subst hw3
          refine hK.out _ _ kk3 (fun hHeld3 => ?_)
          clear hK K
          try simp only [Act.put, List.getElem_toArray, List.getElem_cons_succ, List.getElem_cons_zero, List.setIfInBounds_toArray, List.set_cons_zero, List.set_cons_succ]
          refine wpAnyH_ready (rs := [15]) (by kernel_rfl) (by simp) ?_
          refine AllReadyH.cons rfl (fun K hK => ?_) AllReadyH.nil
          go_simp
          refine (HPT.out _).mono ?_
          rintro e w14 ⟨rfl, m4, hw4⟩
          try go_simp
          have kk4 : w14.cell? ⟨oa, fa + i, none⟩ = some (.int .u64 (ak : Int)) ∧ w14.cell? ⟨ob, fb + i, none⟩ = some (.int .u64 (bk : Int)) := hw4 ▸ ⟨hca, hcb⟩
          have HQ4 := Lib.hid hw4
          subst hw4
          refine hK.out _ _ kk4 (fun hHeld4 => ?_)
          clear hK K
          try simp only [Act.put, List.getElem_toArray, List.getElem_cons_succ, List.getElem_cons_zero, List.setIfInBounds_toArray, List.set_cons_zero, List.set_cons_succ]
          refine wpAnyH_ready (rs := [16]) (by kernel_rfl) (by simp) ?_
          refine AllReadyH.cons rfl (fun K hK => ?_) AllReadyH.nil
          go_simp
          refine (HVP.out _).mono ?_
          rintro e w15 ⟨rfl, m5, hw5⟩
          try go_simp
          have kk5 : w15.cell? ⟨oa, fa + i, none⟩ = some (.int .u64 (ak : Int)) ∧ w15.cell? ⟨ob, fb + i, none⟩ = some (.int .u64 (bk : Int)) := hw5 ▸ ⟨hca, hcb⟩
          have HQ5 := Lib.hid hw5
          subst hw5
          refine hK.out _ _ kk5 (fun hHeld5 => ?_)
          clear hK K
          try simp only [Act.put, List.getElem_toArray, List.getElem_cons_succ, List.getElem_cons_zero, List.setIfInBounds_toArray, List.set_cons_zero, List.set_cons_succ]
          refine wpAnyH_ready (rs := [17]) (by kernel_rfl) (by simp) ?_
          refine AllReadyH.cons rfl (fun K hK => ?_) AllReadyH.nil
          go_simp
          refine (H2.out _).mono ?_
          rintro e w16 ⟨rfl, m6, hw6⟩
          try go_simp
          have kk6 : w16.cell? ⟨oa, fa + i, none⟩ = some (.int .u64 (ak : Int)) ∧ w16.cell? ⟨ob, fb + i, none⟩ = some (.int .u64 (bk : Int)) := hw6 ▸ ⟨hca, hcb⟩
          have HQ6 := Lib.hid hw6
          subst hw6
          refine hK.out _ _ kk6 (fun hHeld6 => ?_)
          clear hK K
          try simp only [Act.put, List.getElem_toArray, List.getElem_cons_succ, List.getElem_cons_zero, List.setIfInBounds_toArray, List.set_cons_zero, List.set_cons_succ]
          refine wpAnyH_take (i := 18) (v := ?_) rfl (by kernel_rfl) (by kernel_rfl) (by kernel_rfl) (fun _ _ _ h => h) (Or.inl ⟨by rfl, ?_⟩) (by assumption) ?_
          rotate_left
          · (intro w hSw; (try dsimp only at hSw); obtain ⟨s0, s1⟩ := hSw; go_simp; try (with_reducible rfl))
          try simp only [Act.put, List.getElem_toArray, List.getElem_cons_succ, List.getElem_cons_zero, List.setIfInBounds_toArray, List.set_cons_zero, List.set_cons_succ]
          refine wpAnyH_done (by kernel_rfl) ?_ _
          clear hHeld hHeld1 hHeld2 hHeld3 hHeld4 hHeld5 hHeld6 kk0 kk1 kk2 kk3 kk4 kk5 kk6
          go_wp2
          have hw2 : wy.drewN m6 = wo.drewN (j + m6) := by rw [HWY.out, World.drewN_drewN]
          have HW2 := Lib.hid hw2
          clear hw2
          go_roundw
          case rel => exact ⟨i + 1, _, hlt, by go_num, HW2.out⟩
          case measure => simp [intOf]; omega
        · have e : i = n := by omega
          subst e
          clear hwy hby
          go_wp2
          go_ret
          exact ⟨rfl, HBY.out⟩
end Go.Proofs.Ytcbcmnbfflaicaa
