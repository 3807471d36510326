/-
  The reference's helpers: whether shares are the same; whether a number is one of some; whether a list of shares tells; what was there is left as it was. Up to a million shares.
-/
import Derived.Test.YthnbkbmhlalpaaaShd
import Derived.BigQuiet
import Derived.Deep.QuietTactic
namespace Go.Proofs.Ythnbkbmhlalpaaa
open Go.RowKit

set_option maxRecDepth 100000 in
set_option maxHeartbeats 2000000 in
theorem same_any (A A2 : Option Addr) (n c c2 : Nat) (l : List Shr) (w : World) (hA : St w A n c l) (hB : St w A2 n c2 l) (hn : n ≤ 1000000) :
    Calls Try.prog 12 #[.slice A n c, .slice A2 n c2] w fun e w' => e = .returned (.bool true) ∧ Below w.heap.size w w' := by
  have HA := Lib.hid hA
  have HB := Lib.hid hB
  have hk0 : Below w.heap.size w w := Below.refl _ _
  have hd : ((n : Int) != (n : Int)) = false := by simp
  have hfree := share_free
  have HNQ := Lib.hid share_neq
  clear hA hB
  go_enter Try.func12, Try.ntmps12
  go_wp2
  go_loopw [5] (fun i wr => ∃ k : Nat, i = .int .i64 (k : Int) ∧ k ≤ n ∧ Below w.heap.size w wr) (fun i _ => n - (intOf i).toNat)
  case atStart => exact ⟨0, rfl, Nat.zero_le _, hk0⟩
  case round =>
    obtain ⟨k, rfl, hk, hb⟩ := hrel
    clear hk0
    by_cases hlt : k < n
    · obtain ⟨s, hs⟩ : ∃ s, l[k]? = some s := ⟨l[k]'(by have := HA.out.len; omega), List.getElem?_eq_getElem _⟩
      obtain ⟨b1, o1, rfl, hb1, -, c1, c2⟩ := HA.out.spot hs
      obtain ⟨b2, o2, rfl, hb2, -, c3, c4⟩ := HB.out.spot hs
      obtain ⟨a, v⟩ := s
      have r1 := (hb.cell (p := ⟨b1, o1 + k * 2, none⟩) hb1).trans c1
      have r2 := (hb.cell (p := ⟨b1, o1 + k * 2 + 1, none⟩) hb1).trans c2
      have r3 := (hb.cell (p := ⟨b2, o2 + k * 2, none⟩) hb2).trans c3
      have r4 := (hb.cell (p := ⟨b2, o2 + k * 2 + 1, none⟩) hb2).trans c4
      have hnq : ∀ W, (binOp .neq 33 (.agg #[.int .u64 (a : Int), .int .u64 (v : Int)]) (.agg #[.int .u64 (a : Int), .int .u64 (v : Int)])).run Try.prog W = .ok (.bool false) W := fun W => by
        rw [HNQ.out]
        unfold alike
        simp
      have q1 : (k : Int) < (n : Int) := by omega
      have q0 : (0 : Int) ≤ (k : Int) := by omega
      clear c1 c2 c3 c4 hs
      go_wp2_with fail
      go_quiet (fail)
      go_wp2
      go_roundw
      case rel => exact ⟨k + 1, by go_num, hlt, by first | exact hb | exact below_drewN hb _⟩
      case measure => simp [intOf]; omega
    · have e : k = n := by omega
      subst e
      go_wp2
      go_ret
      exact ⟨rfl, hb⟩

/-! ### integers -/
def nats (l : List Nat) : List Value := l.map fun k : Nat => .int .i64 (k : Int)
theorem nats_len (l : List Nat) : (nats l).length = l.length := by simp [nats]
theorem nats_snoc (l : List Nat) (x : Nat) : nats (l ++ [x]) = nats l ++ [.int .i64 (x : Int)] := by simp [nats]
theorem info_int : (Try.prog.info? 3).map (fun i => (i.zero, i.size, i.bytes)) = some (some (.int .i64 0), 1, 8) := by kernel_rfl
/-- A list of integers of its own, from block B on. -/
def Io (B : Nat) (w : World) (o : Value) (l : List Nat) : Prop := (∃ A c, o = .slice A l.length c) ∧ w.ownsRow B 3 1 o l.length (nats l)
theorem Io.nil (B : Nat) (w : World) : Io B w (.slice none 0 0) [] := ⟨⟨none, 0, rfl⟩, World.ownsRow_nil w B 3 1⟩
theorem Io.kept {B : Nat} {w w' : World} {o : Value} {l : List Nat} {row : Option Nat} (h : Io B w o l) (hg : w.grownBy w' row) (hne : o.ownBlock = none ∨ o.ownBlock ≠ row) : Io B w' o l := ⟨h.1, h.2.kept hg hne⟩
theorem Io.below {B : Nat} {w w' : World} {o : Value} {l : List Nat} (h : Io B w o l) (hb : Below w.heap.size w w') : Io B w' o l :=
  h.kept (below_grown hb none) (by cases h2 : o.ownBlock with | none => exact .inl rfl | some k => exact .inr (by simp))
theorem Io.rd {B : Nat} {w : World} {o : Value} {l : List Nat} (h : Io B w o l) : ∃ A c, o = .slice A l.length c ∧ Rd w.heap.size w A (nats l) := by
  obtain ⟨⟨A, c, rfl⟩, hrow⟩ := h
  exact ⟨A, c, rfl, Rd.of_own hrow⟩

set_option maxRecDepth 100000 in
set_option maxHeartbeats 2000000 in
theorem has_any (A : Option Addr) (n c x : Nat) (l : List Nat) (w : World) (hn : n = l.length) (hA : Rd w.heap.size w A (nats l)) (hnb : n ≤ 1000000) (q : Bool) (hq : q = decide (x ∈ l)) :
    Calls Try.prog 34 #[.slice A n c, .int .i64 (x : Int)] w fun e w' => e = .returned (.bool q) ∧ w = w' := by
  have HN := Lib.hid hn
  have HA := Lib.hid hA
  have HQ := Lib.hid hq
  clear hn hA hq
  go_enter Try.func34, Try.ntmps34
  go_wp2
  go_loop [5] (fun i => ∃ k : Nat, i = .int .i64 (k : Int) ∧ k ≤ n ∧ x ∉ l.take k) (fun i => n - (intOf i).toNat)
  case atStart => exact ⟨0, rfl, Nat.zero_le _, by simp⟩
  case round =>
    obtain ⟨k, rfl, hk, hno⟩ := hrel
    have HNO := Lib.hid hno
    clear hno
    by_cases hlt : k < n
    · have hlen : k < l.length := by rw [← HN.out]; exact hlt
      obtain ⟨b, off, rfl, hb, hc⟩ := HA.out (by rw [nats_len]; omega)
      have r := hc k (.int .i64 ((l[k] : Nat) : Int)) (by unfold nats; rw [List.getElem?_map, List.getElem?_eq_getElem hlen]; rfl)
      obtain ⟨y, hy⟩ : ∃ y, y = l[k] := ⟨_, rfl⟩
      rw [← hy] at r
      have HY := Lib.hid hy
      clear hy hc
      by_cases he : y = x
      · subst he
        have hqt : q = true := by
          rw [HQ.out]
          exact decide_eq_true (by rw [HY.out]; exact List.getElem_mem hlen)
        subst hqt
        have hd : ((y : Int) == (y : Int)) = true := by simp
        clear HQ
        go_wp2
        go_ret
        exact ⟨rfl, rfl⟩
      · have hd : ((y : Int) == (x : Int)) = false := by rw [beq_eq_false_iff_ne]; omega
        have hno2 : x ∉ l.take (k + 1) := by
          rw [List.take_succ_eq_append_getElem hlen, List.mem_append, List.mem_singleton]
          rintro (h | h)
          · exact HNO.out h
          · exact he (by rw [HY.out, h])
        have HN2 := Lib.hid hno2
        clear hno2 he
        go_wp2
        go_round
        case rel => exact ⟨k + 1, by go_num, hlt, HN2.out⟩
        case measure => simp [intOf]; omega
    · have e : k = n := by omega
      subst e
      have hqf : q = false := by
        rw [HQ.out]
        refine decide_eq_false ?_
        have h := HNO.out
        rwa [List.take_of_length_le (by rw [← HN.out]; omega)] at h
      subst hqf
      clear HQ
      go_wp2
      go_ret
      exact ⟨rfl, rfl⟩

/-! ### which lists tell -/
namespace Sr
theorem bad_zero {l : List Shr} {k : Nat} {s : Shr} (hk : l[k]? = some s) (h0 : Fld.num s.a = 0) : ¬ Good l := fun h =>
  h.2.1 (List.mem_map.2 ⟨s, List.mem_of_getElem? hk, h0⟩)
theorem bad_two {l : List Shr} {j k : Nat} {s t : Shr} (hj : l[j]? = some s) (hk : l[k]? = some t) (hjk : j < k) (he : Fld.num s.a = Fld.num t.a) : ¬ Good l := fun h => by
  have h2 := h.2.2
  unfold List.Nodup at h2
  rw [List.pairwise_iff_getElem] at h2
  obtain ⟨h3, e3⟩ := List.getElem?_eq_some_iff.1 hj
  obtain ⟨h4, e4⟩ := List.getElem?_eq_some_iff.1 hk
  refine h2 j k (by rw [nums_len]; exact h3) (by rw [nums_len]; exact h4) hjk ?_
  unfold nums
  rw [List.getElem_map, List.getElem_map, e3, e4, he]
/-- The first i are not at 0, and no two of them at one place. -/
def Fine (l : List Shr) (i : Nat) : Prop := 0 ∉ (nums l).take i ∧ ((nums l).take i).Nodup
/-- The k first are not where x is. -/
def Free (l : List Shr) (k x : Nat) : Prop := x ∉ (nums l).take k
theorem Fine.zero (l : List Shr) : Fine l 0 := ⟨by simp, by simp⟩
theorem nums_take {l : List Shr} {i : Nat} {s : Shr} (hi : l[i]? = some s) : (nums l).take (i + 1) = (nums l).take i ++ [Fld.num s.a] := by
  have h3 := (List.getElem?_eq_some_iff.1 hi)
  obtain ⟨h3, e3⟩ := h3
  rw [List.take_succ_eq_append_getElem (by rw [nums_len]; exact h3)]
  unfold nums
  rw [List.getElem_map, e3]
theorem Fine.next {l : List Shr} {i : Nat} {s : Shr} (h : Fine l i) (hi : l[i]? = some s) (h0 : Fld.num s.a ≠ 0) (hf : Free l i (Fld.num s.a)) : Fine l (i + 1) := by
  unfold Fine
  rw [nums_take hi]
  refine ⟨fun hm => ?_, ?_⟩
  · rcases List.mem_append.1 hm with h1 | h1
    · exact h.1 h1
    · exact h0 (List.mem_singleton.1 h1).symm
  · rw [List.nodup_append]
    refine ⟨h.2, by simp, fun a ha b hb => ?_⟩
    rw [List.mem_singleton.1 hb]
    intro e
    subst e
    exact hf ha
theorem Free.zero (l : List Shr) (x : Nat) : Free l 0 x := by simp [Free]
theorem Free.next {l : List Shr} {k x : Nat} {s : Shr} (h : Free l k x) (hk : l[k]? = some s) (hne : Fld.num s.a ≠ x) : Free l (k + 1) x := by
  unfold Free
  rw [nums_take hk, List.mem_append, List.mem_singleton]
  rintro (h1 | h1)
  · exact h h1
  · exact hne h1.symm
theorem Fine.good {l : List Shr} {n : Nat} (h : Fine l n) (hn : n = l.length) (h0 : 0 < n) : Good l := by
  have e : (nums l).take n = nums l := List.take_of_length_le (by rw [nums_len, hn]; exact Nat.le_refl _)
  unfold Fine at h
  rw [e] at h
  exact ⟨by intro e2; rw [e2] at hn; simp at hn; omega, h.1, h.2⟩
end Sr

set_option maxRecDepth 100000 in
set_option maxHeartbeats 4000000 in
theorem wrong_any (A : Option Addr) (n c z : Nat) (l : List Shr) (w : World) (hA : St w A n c l) (hn : n ≤ 1000000) (hg : Sr.Good l → z = 0) (hb : ¬ Sr.Good l → z = 29) :
    Calls Try.prog 29 #[.slice A n c] w fun e w' => e = .returned (.int .i64 (z : Int)) ∧ Below w.heap.size w w' := by
  have HA := Lib.hid hA
  have HG := Lib.hid hg
  have HB := Lib.hid hb
  have hk0 : Below w.heap.size w w := Below.refl _ _
  have HNUM := Lib.hid (fun (a : Nat) (W : World) => rnum_any a W)
  by_cases hn0 : n = 0
  · subst hn0
    have hl : l = [] := List.eq_nil_of_length_eq_zero hA.len.symm
    have hz : z = 29 := hb (fun h => h.1 hl)
    subst hz
    clear hA hg hb HA HG HB HNUM hl
    go_enter Try.func29, Try.ntmps29
    go_wp2
    go_ret
    exact ⟨rfl, hk0⟩
  · have hd : ((n : Int) == 0) = false := by rw [beq_eq_false_iff_ne]; omega
    have hlen := Lib.hid hA.len
    clear hA hg hb
    go_enter Try.func29, Try.ntmps29
    go_wp2
    go_loopw [3] (fun i wr => ∃ k : Nat, i = .int .i64 (k : Int) ∧ k ≤ n ∧ Sr.Fine l k ∧ Below w.heap.size w wr) (fun i _ => n - (intOf i).toNat)
    case atStart => exact ⟨0, rfl, Nat.zero_le _, Sr.Fine.zero l, hk0⟩
    case round =>
      obtain ⟨i, rfl, hi, hfi, hb⟩ := hrel
      have HF := Lib.hid hfi
      clear hk0 hfi
      by_cases hlt : i < n
      · obtain ⟨s, hs⟩ : ∃ s, l[i]? = some s := ⟨l[i]'(by have := hlen.out; omega), List.getElem?_eq_getElem _⟩
        obtain ⟨b1, o1, rfl, hb1, -, c1, c2⟩ := HA.out.spot hs
        obtain ⟨a, v⟩ := s
        have r1 := (hb.cell (p := ⟨b1, o1 + i * 2, none⟩) hb1).trans c1
        have HNA := Lib.hid (fun W => HNUM.out a W)
        obtain ⟨m, hm⟩ : ∃ m, m = Fld.num a := ⟨_, rfl⟩
        rw [← hm] at HNA
        have HS := Lib.hid hs
        have HM := Lib.hid hm
        have q1 : (i : Int) < (n : Int) := by omega
        clear c1 c2 hs hm
        by_cases h0 : m = 0
        · subst h0
          have hz : z = 29 := HB.out (Sr.bad_zero HS.out HM.out.symm)
          subst hz
          clear HG HB
          go_wp2_with (first | (go_at_call 32; ((with_reducible refine (HNA.out _).mono ?_); rintro e w' ⟨rfl, rfl⟩)))
          go_ret
          exact ⟨rfl, hb⟩
        · have hd0 : ((m : Int) == 0) = false := by rw [beq_eq_false_iff_ne]; omega
          have HZ := Lib.hid h0
          clear h0
          go_wp2_with (first | (go_at_call 32; ((with_reducible refine (HNA.out _).mono ?_); rintro e w' ⟨rfl, rfl⟩)))
          go_loopw [4] (fun j w2 => ∃ k : Nat, j = .int .i64 (k : Int) ∧ k ≤ i ∧ Sr.Free l k m ∧ Below w.heap.size w w2) (fun j _ => i - (intOf j).toNat)
          case atStart => exact ⟨0, rfl, Nat.zero_le _, Sr.Free.zero l m, hb⟩
          case round =>
            obtain ⟨k, rfl, hk, hfr, hb2⟩ := hrel
            have HFR := Lib.hid hfr
            clear hfr
            by_cases hlt2 : k < i
            · obtain ⟨s2, hs2⟩ : ∃ s, l[k]? = some s := ⟨l[k]'(by have := hlen.out; omega), List.getElem?_eq_getElem _⟩
              obtain ⟨b2, o2, e2, hbb2, -, c3, c4⟩ := HA.out.spot hs2
              injection e2 with e2
              injection e2 with e2 e3
              subst e2 e3
              obtain ⟨a2, v2⟩ := s2
              have r2 := (hb2.cell (p := ⟨b1, o1 + k * 2, none⟩) hb1).trans c3
              have r3 := (hb2.cell (p := ⟨b1, o1 + i * 2, none⟩) hb1).trans (HA.out.spot HS.out |> fun ⟨b', o', e', _, _, c', _⟩ => by injection e' with e'; injection e' with e1 e3; subst e1 e3; exact c')
              have HNB := Lib.hid (fun W => HNUM.out a2 W)
              obtain ⟨m2, hm2⟩ : ∃ m2, m2 = Fld.num a2 := ⟨_, rfl⟩
              rw [← hm2] at HNB
              have HS2 := Lib.hid hs2
              have HM2 := Lib.hid hm2
              have q2 : (k : Int) < (n : Int) := by omega
              have q3 : (0 : Int) ≤ (k : Int) := by omega
              have q4 : (0 : Int) ≤ (i : Int) := by omega
              have S0 : wr.drew.cell? ⟨b1, o1 + k * 2, none⟩ = some (.int .u64 (a2 : Int)) ∧ wr.drew.cell? ⟨b1, o1 + i * 2, none⟩ = some (.int .u64 (a : Int)) := ⟨r2, r3⟩
              clear c3 c4 hs2 hm2 r1 hbb2
              by_cases he : m2 = m
              · have hz : z = 29 := HB.out (Sr.bad_two HS2.out HS.out hlt2 (by show Fld.num a2 = Fld.num a; rw [← HM2.out, he, HM.out]))
                subst hz
                have hd2 : ((m2 : Int) == (m : Int)) = true := by rw [he]; simp
                clear HG HB he
                go_wp2_with fail
                go_region_held3 (fun w' : World => w'.cell? ⟨b1, o1 + k * 2, none⟩ = some (.int .u64 (a2 : Int)) ∧ w'.cell? ⟨b1, o1 + i * 2, none⟩ = some (.int .u64 (a : Int)))
                  ((first | with_reducible exact S0 | with_reducible exact And.intro r2 r3))
                  (first
                    | (go_at_call 32; ((with_reducible refine (HNA.out _).mono ?_); rintro r w3 ⟨rfl, rfl⟩))
                    | (go_at_call 32; ((with_reducible refine (HNB.out _).mono ?_); rintro r w3 ⟨rfl, rfl⟩)))
                all_goals go_wp2
                all_goals go_ret
                all_goals exact ⟨rfl, below_to_drew hb2⟩
              · have hd2 : ((m2 : Int) == (m : Int)) = false := by rw [beq_eq_false_iff_ne]; omega
                have HE := Lib.hid he
                clear he
                go_wp2_with fail
                go_region_held3 (fun w' : World => w'.cell? ⟨b1, o1 + k * 2, none⟩ = some (.int .u64 (a2 : Int)) ∧ w'.cell? ⟨b1, o1 + i * 2, none⟩ = some (.int .u64 (a : Int)))
                  ((first | with_reducible exact S0 | with_reducible exact And.intro r2 r3))
                  (first
                    | (go_at_call 32; ((with_reducible refine (HNA.out _).mono ?_); rintro r w3 ⟨rfl, rfl⟩))
                    | (go_at_call 32; ((with_reducible refine (HNB.out _).mono ?_); rintro r w3 ⟨rfl, rfl⟩)))
                all_goals go_wp2
                all_goals go_roundw
                all_goals first
                  | exact ⟨k + 1, by go_num, hlt2, HFR.out.next HS2.out (by show Fld.num a2 ≠ m; rw [← HM2.out]; exact HE.out), below_to_drew hb2⟩
                  | (simp [intOf]; omega)
            · have e : k = i := by omega
              subst e
              have hfi2 := HF.out.next HS.out (by show Fld.num a ≠ 0; rw [← HM.out]; exact HZ.out) (by show Sr.Free l k (Fld.num a); rw [← HM.out]; exact HFR.out)
              have HF2 := Lib.hid hfi2
              clear hfi2 r1
              go_wp2
              go_roundw
              case rel => exact ⟨k + 1, by go_num, hlt, HF2.out, hb2⟩
              case measure => simp [intOf]; omega
      · have e : i = n := by omega
        subst e
        have hz : z = 0 := HG.out (HF.out.good hlen.out (by omega))
        subst hz
        clear HG HB
        go_wp2
        go_ret
        exact ⟨rfl, hb⟩

end Go.Proofs.Ythnbkbmhlalpaaa
