/-
  The reference's Split and At: a secret's shares, and what shares tell; what was there is left as it was. Up to a thousand shares, and coefficients.
-/
import Derived.Test.YthnbkbmhlalpaaaShe
import Derived.Test.YthnbkbmhlalpaaaJd
namespace Go.Proofs.Ythnbkbmhlalpaaa
open Go.RowKit

theorem Sr.split_small (f : List Nat) {n : Nat} (hn : n ≤ 1000000) : Sm64 (Sr.split f n) := fun s hs => by
  obtain ⟨h1, h2, h3⟩ := Sr.split_mem hs
  have := vl_lt (Pl.co f) s.a
  omega
theorem gl_one (w : World) (x : Nat) : Gl w.heap.size (w.alloc (.cells #[.int .u64 (x : Int)] 22)) (.slice (some ⟨w.heap.size, 0, none⟩) 1 1) [x] := by
  refine ⟨some ⟨w.heap.size, 0, none⟩, 1, rfl, rfl, .inr ⟨w.heap.size, 1, #[.int .u64 (x : Int)], rfl, Nat.le_refl _, blk_new w 22 #[.int .u64 (x : Int)], Nat.le_refl _, by unfold maxLen; omega, rfl, rfl⟩⟩

set_option maxRecDepth 100000 in
set_option maxHeartbeats 4000000 in
theorem rsplit_any (s k n c : Nat) (A : Option Addr) (f cs : List Nat) (w : World) (hf : f = s :: cs) (hA : Pt w A n c cs) (hn : n ≤ 1000) (hk : k ≤ 1000) :
    Calls Try.prog 14 #[.int .u64 (s : Int), .slice A n c, .int .i64 (k : Int)] w fun e w' => (∃ z, e = .returned z ∧ So w.heap.size w' z (Sr.split f k)) ∧ Below w.heap.size w w' := by
  have HF := Lib.hid hf
  have hA1 := hA.new (.cells #[.int .u64 (s : Int)] 22)
  have hb0 : Below w.heap.size w (w.alloc (.cells #[.int .u64 (s : Int)] 22)) := (Below.refl _ w).alloc (Nat.le_refl _) _
  have hg1 := gl_one w s
  have hsz : w.heap.size ≤ (w.alloc (.cells #[.int .u64 (s : Int)] 22)).heap.size := hb0.size
  have HA := Lib.hid hA1
  have HG := Lib.hid hg1
  have HL := Lib.hid hA.1
  have HB0 := Lib.hid hb0
  clear hA hA1 hg1 hb0 hf
  go_enter Try.func14, Try.ntmps14
  go_wp2_with (at_builtin; refine wpList_app64 rfl _ _ rfl w.heap.size [s] cs _ A n c HG.out rfl rfl HA.out.1 HA.out.2.1 (fun e => ⟨HA.out.2.2.2 e, by have h1 := HA.out.2.2.1; have h2 := HA.out.2.2.2 e; omega⟩) (by simp; omega) hsz ?_; intro z w1 hg1 hb1; have HZ := Lib.hid hg1; clear hg1)
  have hbw := HB0.out.trans hb1
  have hzf : Gl w.heap.size w1 z f := by rw [HF.out]; exact HZ.out
  have hfl : f.length = n + 1 := by rw [HF.out, List.length_cons, HL.out]
  obtain ⟨Af, cf, rfl, hp, -⟩ := hzf.pt
  rw [hfl] at hp ⊢
  have HP := Lib.hid hp
  have HBW := Lib.hid hbw
  clear hfl hp hzf HZ HA HG hb1 hbw HB0 HL hsz
  go_wp2
  go_loopw [8, 9] (fun o i wr => ∃ j : Nat, i = .int .i64 ((j + 1 : Nat) : Int) ∧ j ≤ k ∧ So w1.heap.size wr o (Sr.split f j) ∧ Below w1.heap.size w1 wr) (fun _ i _ => k + 1 - (intOf i).toNat)
  case atStart => exact ⟨0, rfl, Nat.zero_le _, So.nil _ _, Below.refl _ _⟩
  case round =>
    obtain ⟨j, rfl, hj, hso, hb⟩ := hrel
    have HSO := Lib.hid hso
    have HB := Lib.hid hb
    clear hso hb
    by_cases hlt : j < k
    · have hq : decide (((j + 1 : Nat) : Int) ≤ (k : Int)) = true := decide_eq_true (by omega)
      obtain ⟨p, hp⟩ : ∃ p, p = j + 1 := ⟨_, rfl⟩
      have hp1 : p ≤ 1000 := by omega
      have hq2 : (p : Int) ≤ (k : Int) := by omega
      rw [← hp]
      have hev := Lib.hid (reval_any Af (n + 1) cf p f wr HP.out.1 (by omega) ((HP.out.below HB.out).2.1))
      obtain ⟨y, hy⟩ : ∃ y, y = Pl.hv p f := ⟨_, rfl⟩
      rw [← hy] at hev
      have hsn : Sr.split f (j + 1) = Sr.split f j ++ [⟨p, y⟩] := by rw [Sr.split_succ, hy, hp]
      have HSN := Lib.hid hsn
      have HPJ := Lib.hid hp
      have hlen : (Sr.split f j).length ≤ 1000000000 := by rw [Sr.split_len]; omega
      have HLN := Lib.hid hlen
      clear hsn hp hy hlen hq
      go_wp2_with fail
      refine (hev.out).mono ?_
      rintro e w2 ⟨rfl, hb2⟩
      have HSO2 := Lib.hid (HSO.out.below hb2)
      have HB2 := Lib.hid (kept_trans HB.out hb2)
      have hsz2 : w1.heap.size ≤ w2.heap.size := HB2.out.size
      clear hb2 hev HSO HB
      go_wp2_with (at_builtin; refine wpList_pushS rfl _ _ rfl w1.heap.size p y _ _ HSO2.out rfl rfl HLN.out hsz2 ?_; intro z3 w3 hz3 hb3; have HZ3 := Lib.hid hz3; clear hz3)
      go_roundw
      case rel => exact ⟨p, by go_num, by omega, by rw [HPJ.out, HSN.out]; exact HZ3.out, HB2.out.trans hb3⟩
      case measure => simp [intOf]; omega
    · obtain rfl : j = k := by omega
      have hq : decide (((j + 1 : Nat) : Int) ≤ (j : Int)) = false := decide_eq_false (by omega)
      obtain ⟨p, hp⟩ : ∃ p, p = j + 1 := ⟨_, rfl⟩
      have hq2 : (j : Int) < (p : Int) := by omega
      rw [← hp] at hq ⊢
      clear hp
      go_wp2
      go_ret
      exact ⟨⟨_, rfl, HSO.out.base HBW.out.size⟩, HBW.out.trans (HB.out.mono HBW.out.size)⟩

/-- Two lists that grow beside each other. -/
theorem Gb.new {B : Nat} {w : World} {o : Value} {L : List Nat} (h : Gb B w o L) (x : Obj) : Gb B (w.alloc x) o L := h.below ((Below.refl _ w).alloc (Nat.le_refl _) _)
theorem Apart.none_left (b : Value) : Apart (.slice none 0 0) b := fun k h => by simp [Value.ownBlock] at h
namespace Sr
theorem ats_next {l : List Shr} {k : Nat} {s : Shr} (h : l[k]? = some s) : ats (l.take (k + 1)) = ats (l.take k) ++ [s.a] := by
  obtain ⟨h1, h2⟩ := List.getElem?_eq_some_iff.1 h
  rw [List.take_succ_eq_append_getElem h1, h2]; unfold ats; rw [List.map_append]; rfl
theorem vs_next {l : List Shr} {k : Nat} {s : Shr} (h : l[k]? = some s) : vs (l.take (k + 1)) = vs (l.take k) ++ [s.v] := by
  obtain ⟨h1, h2⟩ := List.getElem?_eq_some_iff.1 h
  rw [List.take_succ_eq_append_getElem h1, h2]; unfold vs; rw [List.map_append]; rfl
end Sr
theorem Gb.nv {B d : Nat} {w : World} {o : Value} {L : List Nat} (h : Gb B w o L) (hs : ∀ y ∈ L, y < 18446744073709551616) (hd : L.length ≤ d) : Nv w o L d := by
  obtain ⟨A, c, rfl, hp⟩ := h.list rfl
  exact ⟨A, _, c, rfl, hp, hs, hd⟩
theorem Sm64.ats {l : List Shr} (h : Sm64 l) : ∀ y ∈ Sr.ats l, y < 18446744073709551616 := fun y hy => by
  obtain ⟨s, hs, rfl⟩ := List.mem_map.1 hy
  exact (h s hs).1
theorem Sm64.vs {l : List Shr} (h : Sm64 l) : ∀ y ∈ Sr.vs l, y < 18446744073709551616 := fun y hy => by
  obtain ⟨s, hs, rfl⟩ := List.mem_map.1 hy
  exact (h s hs).2

set_option maxRecDepth 100000 in
set_option maxHeartbeats 4000000 in
theorem rat9_any (A : Option Addr) (n c x r z : Nat) (l : List Shr) (w : World) (hA : St w A n c l) (hn : n ≤ 1000) (ht : Sr.tell l x = (r, z)) :
    Calls Try.prog 17 #[.slice A n c, .int .u64 (x : Int)] w fun e w' => e = .returned (.tuple #[.int .u64 (r : Int), .int .i64 (z : Int)]) ∧ Below w.heap.size w w' := by
  by_cases hg : Sr.Good l
  · rw [Sr.tell_good hg] at ht
    injection ht with h1 h2
    have HR := Lib.hid h1
    subst h2
    have hw := Lib.hid (wrong_any A n c 0 l w hA (by omega) (fun _ => rfl) (fun h => absurd hg h))
    have HA := Lib.hid hA
    have HL := Lib.hid hA.len
    clear hA hg h1
    go_enter Try.func17, Try.ntmps17
    go_wp2_with fail
    refine (hw.out).mono ?_
    rintro e w1 ⟨rfl, hb1⟩
    have hk1 := Lib.hid hb1
    have HA1 := Lib.hid (HA.out.below hb1)
    have hB1 : w.heap.size ≤ w1.heap.size := hb1.size
    clear hb1 hw HA
    go_wp2
    go_loopw [7, 8, 9] (fun o o2 i wr => ∃ k : Nat, i = .int .i64 (k : Int) ∧ k ≤ n ∧ Gb w1.heap.size wr o (Sr.ats (l.take k)) ∧ Gb w1.heap.size wr o2 (Sr.vs (l.take k)) ∧ Apart o o2 ∧ Below w1.heap.size w1 wr) (fun _ _ i _ => n - (intOf i).toNat)
    case atStart => exact ⟨0, rfl, Nat.zero_le _, Gb.nil _ _, Gb.nil _ _, Apart.none_left _, Below.refl _ _⟩
    case round =>
      obtain ⟨k, rfl, hk, hg1, hg2, hap, hb⟩ := hrel
      have HG1 := Lib.hid hg1
      have HG2 := Lib.hid hg2
      have HAP := Lib.hid hap
      have HB := Lib.hid hb
      clear hg1 hg2 hap hb
      by_cases hlt : k < n
      · obtain ⟨s, hs⟩ : ∃ s, l[k]? = some s := ⟨l[k]'(by have := HL.out; omega), List.getElem?_eq_getElem _⟩
        obtain ⟨b, off, rfl, hbb, -, c1, c2⟩ := HA1.out.spot hs
        have hat := Sr.ats_next hs
        have hvs := Sr.vs_next hs
        obtain ⟨a, v⟩ := s
        have hla : (Sr.ats (l.take k)).length + 1 ≤ 10000000 := by rw [Sr.ats_len, List.length_take]; omega
        have hlv : (Sr.vs (l.take k)).length + 1 ≤ 10000000 := by rw [Sr.vs_len, List.length_take]; omega
        have r1 := (HB.out.cell (p := ⟨b, off + k * 2, none⟩) hbb).trans c1
        have HC2 := Lib.hid c2
        have HAT := Lib.hid hat
        have HVS := Lib.hid hvs
        have HLA := Lib.hid hla
        have HLV := Lib.hid hlv
        have q1 : (k : Int) < (n : Int) := by omega
        have hsz := HB.out.size
        have tok1 : True := trivial
        clear hat hvs hla hlv hs c1 c2
        go_wp2_with (first
          | (at_builtin; have _t := tok1; refine wpList_push2 rfl _ _ rfl rfl w1.heap.size a _ _ _ _ HG1.out HG2.out HAP.out rfl rfl HLA.out hsz ?_; intro z1 w2 hz1 hz2 hap2 hb2; have HZ1 := Lib.hid hz1; have HZ2 := Lib.hid hz2; have HAP2 := Lib.hid hap2; have r2 := ((HB.out.trans hb2).cell (p := ⟨b, off + k * 2 + 1, none⟩) hbb).trans HC2.out; have HB2 := Lib.hid (HB.out.trans hb2); have hsz2 := HB2.out.size; have tok2 : True := trivial; clear tok1 hz1 hz2 hap2 r1 hb2 hsz)
          | (at_builtin; have _t := tok2; refine wpList_push2 rfl _ _ rfl rfl w1.heap.size v _ _ _ _ HZ2.out HZ1.out HAP2.out.symm rfl rfl HLV.out hsz2 ?_; intro z2 w3 hy1 hy2 hap3 hb3; have HY1 := Lib.hid hy1; have HY2 := Lib.hid hy2; have HAP3 := Lib.hid hap3; clear hy1 hy2 hap3 r2 tok2))
        go_roundw
        case rel => exact ⟨k + 1, by go_num, hlt, by rw [HAT.out]; exact HY2.out, by rw [HVS.out]; exact HY1.out, HAP3.out.symm, HB2.out.trans hb3⟩
        case measure => simp [intOf]; omega
      · obtain rfl : k = n := by omega
        have htk : l.take k = l := List.take_of_length_le (by rw [HL.out]; exact Nat.le_refl _)
        have hg1 := HG1.out
        have hg2 := HG2.out
        rw [htk] at hg1 hg2
        have N1 := Lib.hid (hg1.nv (d := 1000) HA1.out.small.ats (by rw [Sr.ats_len, ← HL.out]; exact hn))
        have N2 := Lib.hid (hg2.nv (d := 1000) HA1.out.small.vs (by rw [Sr.vs_len, ← HL.out]; exact hn))
        clear htk hg1 hg2 HG1 HG2
        go_wp2_with fail
        refine (rfrom_v N1.out N2.out (by omega) (by omega)).mono ?_
        rintro e w2 ⟨⟨zf, rfl, hz⟩, hb2⟩
        have HZ := Lib.hid hz
        have HB2 := Lib.hid (kept_trans HB.out hb2)
        clear hz hb2 N1 N2 HB
        go_wp2_with fail
        refine (reval_v HZ.out.q (by omega) x).mono ?_
        rintro e w3 ⟨rfl, hb3⟩
        have HB3 := Lib.hid (kept_trans hk1.out (kept_trans HB2.out hb3))
        clear hb3 HB2
        go_wp2
        go_ret2
        have e : (vl (fxs (Sr.ats l) (Sr.vs l)) x : Nat) = r := HR.out
        rw [e]
        exact ⟨rfl, HB3.out⟩
  · rw [Sr.tell_bad hg] at ht
    injection ht with h1 h2
    subst h1 h2
    have hw := Lib.hid (wrong_any A n c 29 l w hA (by omega) (fun h => absurd h hg) (fun _ => rfl))
    clear hA hg
    go_enter Try.func17, Try.ntmps17
    go_wp2_with fail
    refine (hw.out).mono ?_
    rintro e w1 ⟨rfl, hb1⟩
    go_wp2
    go_ret2
    exact ⟨rfl, hb1⟩

end Go.Proofs.Ythnbkbmhlalpaaa
