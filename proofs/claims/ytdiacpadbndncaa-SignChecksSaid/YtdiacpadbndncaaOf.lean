/-
  Package hash's Of and Secret: the sum of a label and numbers, as the chapter says it; what was there is left as it was. For every label and all numbers of 64 bits that memory can hold.
-/
import Derived.Test.YtdiacpadbndncaaWords
namespace Go.Proofs.Ytdiacpadbndncaa
open Go.RowKit Go.Shelf
attribute [local go_sem] Oper.semAt_some

theorem blk_kept {W W' : World} {row : Option Nat} {B t : Nat} {cs : Array Value} (h : Blk W B t cs) (hg : W.grownBy W' row) (hr : ∀ r, row = some r → ∃ o : Obj, W.heap[r]? = some o ∧ o.isCells = false) : Blk W' B t cs := by
  refine (hg.block B h.lt fun e => ?_).trans h
  obtain ⟨o, ho, hc⟩ := hr B e.symm
  unfold Blk at h
  rw [h] at ho
  injection ho with ho
  subst ho
  cases hc
theorem blk_own {β : Type} (B t : Nat) (f : β → Array Value) : Own (fun s W => Blk W B t (f s)) := fun _ _ _ _ h hg hr => blk_kept h hg hr
theorem blk_new (w : World) (t : Nat) (cs : Array Value) : Blk (w.alloc (.cells cs t)) w.heap.size t cs := heap_alloc_new w _
theorem blk_alloc {w : World} {B t : Nat} {cs : Array Value} (h : Blk w B t cs) (o : Obj) : Blk (w.alloc o) B t cs := (Below.heap_alloc w o B h.lt).trans h

namespace Hsh
/-- The state behind some words. -/
def st (label : List UInt8) (pre : List Nat) : Nat := fold label.length 1 pre
theorem st_snoc (label : List UInt8) (pre : List Nat) (x : Nat) : st label (pre ++ [x]) = step (st label pre) (pre.length + 1) x := by
  unfold st
  rw [fold_snoc, Nat.add_comm 1]
theorem st_lt (label : List UInt8) (pre : List Nat) (h : label.length < 18446744073709551616) : st label pre < 18446744073709551616 := fold_lt _ _ _ h
end Hsh

set_option maxRecDepth 100000 in
set_option maxHeartbeats 2000000 in
theorem of_any (s : ByteArray) (A : Option Addr) (m c : Nat) (l : List Nat) (w : World) (hs : s.size ≤ 9223372036854775800) (hm : m = l.length) (hmb : m ≤ 9223372036854775800) (hl : ∀ x ∈ l, x < 18446744073709551616)
    (hA : Rd w.heap.size w A (u64s l)) :
    Calls Try.prog 40 #[.string s, .slice A m c] w fun e w' => e = .returned (.int .u64 (Hsh.of s.data.toList l : Nat)) ∧ Below w.heap.size w w' := by
  have HM := Lib.hid hm
  have HL := Lib.hid hl
  have HA := Lib.hid hA
  clear hm hl hA
  refine (callsIn_wide (n := 3)).1 ?_
  refine callsIn_of_wp_marks Try.func40 rfl trivial ?_ rfl
  simp only [Try.ntmps40, List.size_toArray, List.length_cons, List.length_nil, Nat.reduceAdd, Nat.reduceSub, Array.replicate_succ, Array.replicate_zero, List.push_toArray, List.append_toArray, List.nil_append, List.cons_append]
  gi_wp2_with (refine ⟨trivial, ?_⟩; gi_at_call 50; refine (words_string_in Fence.wide (3 - 1) trivial rfl _ _).mono ?_; rintro e w' ⟨rfl, rfl⟩)
  obtain ⟨B, hBs⟩ : ∃ B, B = w.heap.size := ⟨_, rfl⟩
  have hb1 := blk_new w 60 #[.int .u64 s.size, .int .u64 0]
  have hbx := cell_new_l (w.alloc (.cells #[.int .u64 s.size, .int .u64 0] 60)) (.string s) 9
  have hb2 := blk_alloc hb1 (.cells #[.string s] 9)
  have hB0 : Below w.heap.size w ((w.alloc (.cells #[.int .u64 s.size, .int .u64 0] 60)).alloc (.cells #[.string s] 9)) :=
    ((Below.refl _ w).alloc (Nat.le_refl _) _).alloc (by simp) _
  have hsz : ((w.alloc (.cells #[.int .u64 s.size, .int .u64 0] 60)).alloc (.cells #[.string s] 9)).heap.size = w.heap.size + 2 := by simp
  simp only [World.size_alloc] at hbx
  obtain ⟨w2, hw2⟩ : ∃ w2, w2 = (w.alloc (.cells #[.int .u64 s.size, .int .u64 0] 60)).alloc (.cells #[.string s] 9) := ⟨_, rfl⟩
  rw [← hw2] at hbx hb2 hB0 hsz ⊢
  rw [← hBs] at hbx hb2 hB0 hsz HA ⊢
  clear hw2 hb1
  have hBW := Lib.hid hBs
  clear hBs
  have hsl : s.data.toList.length = s.size := rfl
  have HSL := Lib.hid hsl
  clear hsl
  refine wpIn_rangeFunc_ownF rfl (by omega) (gf := 58) (lb := #[.pointer (some ⟨B + 1, 0, none⟩)]) rfl trivial (enters_of Try.func58 (by kernel_rfl) rfl)
    (words_string_stops (3 - 1) (by omega) (B + 1) B (B + 2) s hs w2 (by omega) (by omega) (by omega) hbx.1) KeepsBut.trans (keepsBut_b (by omega)) (Below.refl _ _) (fun _ => rfl)
    (fun pre W => Blk W B 60 #[.int .u64 (Hsh.st s.data.toList (pre.map Wd.val) : Nat), .int .u64 (pre.length : Nat)] ∧ (Below B w W ∧ B + 2 ≤ W.heap.size))
    (fun _ _ _ => False)
    (OwnFrom.and (Own.from (blk_own B 60 fun pre : List Wd => #[.int .u64 (Hsh.st s.data.toList (pre.map Wd.val) : Nat), .int .u64 (pre.length : Nat)]) _) (OwnFrom.and (ownFrom_below (by rw [hBW.out]; exact Nat.le_refl _) (by omega)) (fun _ _ _ _ h hg _ => Nat.le_trans h hg.size)))
    (fun _ _ _ _ _ hs _ _ => hs)
    ⟨hb2, hB0, by omega⟩
    (fun x => { tmps := #[.string s, .slice A m c, undef, undef, .int .u64 0, .pointer (some ⟨B, 0, none⟩), .int .u64 (x.val : Int), undef, undef, .string s, .int .i64 s.size, .int .u64 s.size,
      .agg #[.int .u64 s.size, .int .u64 0], .string s, .func (.func 58) #[] #[.pointer (some ⟨B + 1, 0, none⟩)], .int .u64 (x.val : Int), undef, undef, undef, undef, undef, undef, undef, undef, undef, undef, undef, undef, undef, undef, undef, undef, undef, undef], defers := [] }) ?assign ?body ?done ?stop
  case assign =>
    intro l x W K hK
    unfold Wd.enc
    gi_wp2
    exact hK
  case body =>
    rintro l' pre x W ⟨hblk, hbel, hsiz⟩ hlen
    have hx := x.lt
    have hst := Hsh.st_lt s.data.toList (pre.map Wd.val) (by rw [HSL.out]; omega)
    have hpl : pre.length + 1 < 18446744073709551616 := by unfold Hsh.sevens at hlen; omega
    have hsn := Hsh.st_snoc s.data.toList (pre.map Wd.val) x.val
    rw [List.length_map] at hsn
    have HSN := Lib.hid hsn
    clear hsn
    obtain ⟨z, hz⟩ : ∃ z : Nat, z = x.val := ⟨_, rfl⟩
    rw [← hz] at hx HSN ⊢
    have HZ := Lib.hid hz
    clear hz
    have HBLK := Lib.hid hblk
    clear hblk
    gi_wp2_with (refine ⟨trivial, ?_⟩; gi_at_call 51; refine (CallsIn.inRound l' (callsIn_wide.2 (take_any _ _ _ _ _ HBLK.out hst hpl hx))).mono ?_; rintro e w' ⟨⟨r, rfl⟩, hblk2, hg⟩; have HBLK2 := Lib.hid hblk2; clear hblk2)
    have hiso : ∀ (j : Nat) (o : Obj), some B = some j → W.heap[j]? = some o → o.isCells = true := by
      intro j o e ho
      injection e with e
      subst e
      have h := HBLK.out
      unfold Blk at h
      rw [h] at ho
      injection ho with ho
      subst ho
      rfl
    refine ⟨KeepsOthers.of_grownBy hg hiso, KeepsBut.of_grown hg hsiz, ?_, hbel.trans (below_only hg (Nat.le_refl _) (by omega)), Nat.le_trans hsiz hg.size⟩
    have h := HBLK2.out
    rw [← HSN.out, HZ.out] at h
    simp only [List.map_append, List.map_cons, List.map_nil, List.length_append, List.length_cons, List.length_nil]
    exact h
  case done =>
    rintro D ys W hD rfl ⟨hblk, hbel, hsiz⟩ hK
    rw [Hsh.uptoW_val, Hsh.uptoW_len] at hblk
    have hwl : Hsh.upto s.data.toList (Hsh.sevens s.size) = Hsh.words s.data.toList := by unfold Hsh.words; rw [HSL.out]
    rw [hwl] at hblk
    have hlw := Hsh.words_len s.data.toList
    rw [HSL.out] at hlw
    rw [← hlw] at hblk
    have hk8 : (Hsh.words s.data.toList).length ≤ 1317624576693539402 := by rw [hlw]; unfold Hsh.sevens; omega
    obtain ⟨ws, hws⟩ : ∃ ws, ws = Hsh.words s.data.toList := ⟨_, rfl⟩
    rw [← hws] at hblk hk8
    have HWS := Lib.hid hws
    obtain ⟨q, hq⟩ : ∃ q, q = ws.length := ⟨_, rfl⟩
    rw [← hq] at hblk hk8
    have HQ := Lib.hid hq
    have HBLK := Lib.hid hblk
    have hst : ∀ pre, Hsh.st s.data.toList pre < 18446744073709551616 := fun pre => Hsh.st_lt _ _ (by rw [HSL.out]; omega)
    have HST := Lib.hid hst
    have HWL := Lib.hid hwl
    have hDB : B < D := by omega
    have HK := Lib.hid hK
    clear hq hws hlw hblk hst hwl hK
    gi_wp2_with (refine ⟨trivial, ?_⟩; gi_at_call 51; refine (callsIn_wide.2 (take_any B _ _ m _ HBLK.out (HST.out _) (by omega) (by omega))).mono ?_; rintro e w3 ⟨⟨r, rfl⟩, hblk2, hg⟩; have HBLK2 := Lib.hid hblk2; clear hblk2)
    have hbel3 : Below B w w3 := hbel.trans (below_only hg (Nat.le_refl _) (by omega))
    have hK3 : w3.heap[D]? = some (.deferred (some [])) := (hg.block D (Array.getElem?_eq_some_iff.1 HK.out).1 (fun e => by injection e with e; omega)).trans HK.out
    have HK3 := Lib.hid hK3
    clear hK3 hg HK HBLK hbel
    gi_loopw [24] (fun i wr => ∃ k : Nat, k ≤ m ∧ i = .int .i64 k ∧ Blk wr B 60 #[.int .u64 (Hsh.st s.data.toList (ws ++ m :: l.take k) : Nat), .int .u64 ((q + 1 + k : Nat) : Int)] ∧ Below B w wr ∧ wr.heap[D]? = some (.deferred (some [])))
      (fun i _ => m - (intOf i).toNat)
    case atStart =>
      refine ⟨0, Nat.zero_le _, rfl, ?_, hbel3, HK3.out⟩
      have h := HBLK2.out
      rw [HQ.out, ← Hsh.st_snoc, ← HQ.out] at h
      exact h
    case round =>
      obtain ⟨k, hk, rfl, hblkr, hbelr, hKr⟩ := hrel
      have HBR := Lib.hid hblkr
      have HKR := Lib.hid hKr
      clear hblkr hKr
      by_cases hlt : k < m
      · have hkl : k < l.length := by rw [← HM.out]; exact hlt
        obtain ⟨b, off, rfl, hb, hcl⟩ := (HA.out).at_ (k := k) (by rw [u64s_len]; exact hkl)
        have hx := HL.out _ (List.getElem_mem hkl)
        have hcr : wr.cell? ⟨b, off + k, none⟩ = some (.int .u64 (l[k] : Nat)) := by
          refine (hbelr.cell (p := ⟨b, off + k, none⟩) hb).trans (hcl.trans ?_)
          simp [u64s]
        have htk : ws ++ m :: l.take (k + 1) = (ws ++ m :: l.take k) ++ [l[k]] := by
          rw [List.take_succ_eq_append_getElem hkl]; simp
        have hlen : (ws ++ m :: l.take k).length = q + 1 + k := by
          rw [List.length_append, List.length_cons, List.length_take, HQ.out]; omega
        have hsn := Hsh.st_snoc s.data.toList (ws ++ m :: l.take k) l[k]
        rw [← htk, hlen] at hsn
        obtain ⟨x, hxe⟩ : ∃ x : Nat, x = l[k] := ⟨_, rfl⟩
        rw [← hxe] at hx hcr hsn
        have HSN := Lib.hid hsn
        have HT := Lib.hid (HST.out (ws ++ m :: l.take k))
        clear hsn hxe htk hlen hcl hkl
        gi_wp2_with (refine ⟨trivial, ?_⟩; gi_at_call 51; refine (callsIn_wide.2 (take_any B _ (q + 1 + k) x _ HBR.out HT.out (by omega) hx)).mono ?_; rintro e w4 ⟨⟨r4, rfl⟩, hblk4, hg4⟩; have HBLK4 := Lib.hid hblk4; clear hblk4)
        go_roundw
        case rel =>
          refine ⟨k + 1, hlt, by go_num, ?_, hbelr.trans (below_only hg4 (Nat.le_refl _) (Nat.le_of_lt HBR.out.lt)), (hg4.block D (Array.getElem?_eq_some_iff.1 HKR.out).1 (fun e => by injection e with e; omega)).trans HKR.out⟩
          rw [HSN.out]
          exact HBLK4.out
        case measure => simp [intOf]; omega
      · have hkm : k = m := by omega
        have hbr := HBR.out
        have hall : ws ++ m :: l.take k = ws ++ m :: l := by rw [List.take_of_length_le (by rw [← HM.out]; omega)]
        rw [hall] at hbr
        have hlen : (ws ++ m :: l).length = q + 1 + k := by
          rw [List.length_append, List.length_cons, HQ.out, ← HM.out]; omega
        have hsn := Hsh.st_snoc s.data.toList (ws ++ m :: l) 0
        rw [hlen] at hsn
        have hof : Hsh.st s.data.toList ((ws ++ m :: l) ++ [0]) = Hsh.of s.data.toList l := by
          rw [HWS.out, HM.out]
          unfold Hsh.of Hsh.all Hsh.st
          rw [List.append_assoc, List.cons_append]
        rw [hof] at hsn
        have HSN := Lib.hid hsn
        have HT := Lib.hid (HST.out (ws ++ m :: l))
        have HBR2 := Lib.hid hbr
        have HKM := Lib.hid hkm
        clear hsn hof hlen hall hbr hkm
        gi_wp2_with (refine ⟨trivial, ?_⟩; gi_at_call 51; refine (callsIn_wide.2 (take_any B _ (q + 1 + k) 0 _ HBR2.out HT.out (by omega) (by omega))).mono ?_; rintro e w4 ⟨⟨r4, rfl⟩, hblk4, hg4⟩; have hc4 := Blk.cell hblk4 0; have hK4 := (hg4.block D (Array.getElem?_eq_some_iff.1 HKR.out).1 (fun e => by injection e with e; omega)).trans HKR.out; have HK4 := Lib.hid hK4; clear hblk4 hK4)
        have hb4 : Below B w w4 := hbelr.trans (below_only hg4 (Nat.le_refl _) (Nat.le_of_lt HBR.out.lt))
        refine ⟨by simp, .inl ⟨_, _, rfl, run_takeDeferred HK4.out, ?_⟩⟩
        refine ⟨_, results_tmp rfl _ _ _, by rw [HSN.out]; rfl, ?_⟩
        rw [← hBW.out]
        exact hb4.trans (belowK_b (w := w) (by rw [hBW.out]; exact Nat.le_refl _) w4 D _ _ (by rw [← hBW.out]; omega) HK4.out rfl rfl)
  case stop =>
    rintro D c pre W _ _ h _
    exact h.elim

theorem secret_any (s : ByteArray) (A : Option Addr) (m c : Nat) (l : List Nat) (w : World) (hs : s.size ≤ 9223372036854775800) (hm : m = l.length) (hmb : m ≤ 9223372036854775800) (hl : ∀ x ∈ l, x < 18446744073709551616)
    (hA : Rd w.heap.size w A (u64s l)) :
    Calls Try.prog 26 #[.string s, .slice A m c] w fun e w' => e = .returned (.int .u64 (Hsh.secret s.data.toList l : Nat)) ∧ Below w.heap.size w w' := by
  have hof := of_any s A m c l w hs hm hmb hl hA
  have hlt := Hsh.of_lt s.data.toList l
  obtain ⟨y, hy⟩ : ∃ y : Nat, y = Hsh.of s.data.toList l := ⟨_, rfl⟩
  have hsec : Hsh.secret s.data.toList l = 1 + y % 2305843009213693949 := by rw [hy]; rfl
  rw [← hy] at hof hlt
  rw [hsec]
  obtain ⟨z, hz⟩ : ∃ z : Nat, z = y % 2305843009213693949 := ⟨_, rfl⟩
  have hz1 : (y : Int) % 2305843009213693949 = (z : Int) := by omega
  have hz2 : z < 2305843009213693949 := by omega
  rw [← hz]
  have HOF := Lib.hid hof
  clear hof hy hsec hz hm hl hA
  go_enter Try.func26, Try.ntmps26
  go_wp2_with fail
  refine (HOF.out).mono ?_
  rintro e w' ⟨rfl, hb⟩
  go_wp2
  go_ret
  exact ⟨ret_u64 (by omega), hb⟩

end Go.Proofs.Ytdiacpadbndncaa
