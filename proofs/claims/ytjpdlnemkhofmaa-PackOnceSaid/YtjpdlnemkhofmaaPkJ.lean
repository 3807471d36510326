/-
  The statement PackOnce: the walk. No condition but what fits memory.
-/
import Derived.Test.YtjpdlnemkhofmaaPkG
namespace Go.Proofs.Ytjpdlnemkhofmaa
open Go.RowKit
attribute [local go_sem ↓] Go.wp_at_zero Go.wp_at_succ
set_option linter.unusedVariables false
set_option linter.unusedSimpArgs false

/-! ### what each kind of reading says of the bytes: they are those of the value, or nothing is read -/
namespace Pk
/-- What is read are the bytes bs of the value; or nothing is. -/
def Kd (l bs : List UInt8) (n : Nat) (e : Int) : Prop := (e = 0 → bs = l.take n ∧ 0 < n ∧ n ≤ l.length) ∧ (e ≠ 0 → n = 0) ∧ bs.length ≤ 10 + 20 + l.length
theorem kd_num (l : List UInt8) : Kd l (num (pNum l).v) (pNum l).n (pNum l).e :=
  ⟨fun h => ⟨one_num l h, (sev_len l 0).2 h, (sev_len l 0).1⟩, fun h => (pnum_bad l h).2, Nat.le_trans (num_len10 _ (sev_lt64 l)) (by omega)⟩
theorem pint_bounds (l : List UInt8) : -9223372036854775808 ≤ (pInt l).v ∧ (pInt l).v ≤ 9223372036854775807 := zag_lt _ (sev_lt64 l)
theorem kd_int (l : List UInt8) : Kd l (nInt (pInt l).v) (pInt l).n (pInt l).e :=
  ⟨fun h => ⟨one_int l h, (sev_len l 0).2 h, (sev_len l 0).1⟩, fun h => (pint_bad l h).2, Nat.le_trans (nInt_len _ (pint_bounds l).1 (pint_bounds l).2) (by omega)⟩
theorem pmany_bounds (m : Int) (l : List UInt8) : -9223372036854775808 ≤ (pMany m l).v ∧ (pMany m l).v ≤ 9223372036854775807 := by
  unfold pMany
  split
  · show -9223372036854775808 ≤ (0 : Int) ∧ (0 : Int) ≤ 9223372036854775807
    omega
  · exact pint_bounds l
theorem kd_many (m : Int) (l : List UInt8) : Kd l (nInt (pMany m l).v) (pMany m l).n (pMany m l).e := by
  refine ⟨fun h => ?_, fun h => (pmany_bad m l h).2, Nat.le_trans (nInt_len _ (pmany_bounds m l).1 (pmany_bounds m l).2) (by omega)⟩
  obtain ⟨h1, _, _, h2⟩ := many_ok h
  refine ⟨one_many m l h, ?_⟩
  rw [h1]
  exact ⟨(sev_len l 0).2 h2, (sev_len l 0).1⟩
theorem kd_bool (l : List UInt8) : Kd l (nBool (pBool l).v) (pBool l).n (pBool l).e := by
  have hk := kd_many 1 l
  exact ⟨fun h => ⟨one_bool l h, (hk.1 h).2⟩, hk.2.1, Nat.le_trans (nBool_len _) (by omega)⟩
theorem ptext_len (l : List UInt8) : (pText l).v.length ≤ l.length := by
  by_cases h : (pText l).e = 0
  · exact (one_text l h).2.2
  · rw [(ptext_bad l h).1]; exact Nat.zero_le _
theorem kd_text (l : List UInt8) (hl : l.length ≤ 1000) : Kd l (nText (pText l).v) (pText l).n (pText l).e := by
  have hv := ptext_len l
  refine ⟨fun h => ?_, fun h => (ptext_bad l h).2, ?_⟩
  · obtain ⟨h1, h2, _⟩ := one_text l h
    refine ⟨h1, ?_, h2⟩
    have hp : 0 < (nText (pText l).v).length := by unfold nText; rw [List.length_append]; have := nInt_pos ((pText l).v.length : Nat); omega
    rw [h1, List.length_take] at hp
    omega
  · have := nText_len (pText l).v (by omega)
    omega
theorem pname_bounds (l : List UInt8) : (-9223372036854775808 ≤ (pName l).v.a ∧ (pName l).v.a ≤ 9223372036854775807) ∧ (-9223372036854775808 ≤ (pName l).v.b ∧ (pName l).v.b ≤ 9223372036854775807) ∧ (pName l).v.c < 18446744073709551616 := by
  have hz : (-9223372036854775808 ≤ (0 : Int) ∧ (0 : Int) ≤ 9223372036854775807) ∧ (-9223372036854775808 ≤ (0 : Int) ∧ (0 : Int) ≤ 9223372036854775807) ∧ 0 < 18446744073709551616 := by omega
  unfold pName
  split
  · exact hz
  · split
    · exact hz
    · split
      · exact hz
      · exact ⟨pint_bounds _, pint_bounds _, sev_lt64 _⟩
theorem kd_name (l : List UInt8) : Kd l (nName (pName l).v) (pName l).n (pName l).e := by
  obtain ⟨⟨a1, a2⟩, ⟨b1, b2⟩, c1⟩ := pname_bounds l
  refine ⟨fun h => ?_, fun h => (pname_bad l h).2, ?_⟩
  · obtain ⟨h1, h2⟩ := one_name l h
    refine ⟨h1, ?_, h2⟩
    have hp : 0 < (nName (pName l).v).length := by unfold nName; rw [List.length_append, List.length_append]; have := nInt_pos (pName l).v.a; omega
    rw [h1, List.length_take] at hp
    omega
  · have e1 := nInt_len (pName l).v.a a1 a2
    have e2 := nInt_len (pName l).v.b b1 b2
    have e3 := num_len10 (pName l).v.c c1
    unfold nName
    rw [List.length_append, List.length_append]
    omega
end Pk
/-- A block that lies ahead of an Out turns. -/
theorem Ou.ahead {lo hi X : Nat} {w w' : World} {O : Nat} {l : List UInt8} (h : Ou lo hi w O l) (hg : w.grownBy w' (some X)) (hX : X < lo) : Ou lo hi w' O l := by
  obtain ⟨A, c, hB, hA, h1, h2, h3, h4⟩ := h
  refine ⟨A, c, blk_grown hB hg (fun e => by injection e with e; omega), hA.kept hg ?_, h1, h2, h3, Nat.le_trans h4 hg.size⟩
  by_cases hn : (Value.slice A l.length c).ownBlock = none
  · exact .inl hn
  · refine .inr fun e => ?_
    have := (hA.lt X e).1
    omega
theorem Ou.drewN {lo hi : Nat} {w : World} {O : Nat} {l : List UInt8} (h : Ou lo hi w O l) (n : Nat) : Ou lo hi (w.drewN n) O l := h

/-! ### the round -/
theorem grown_then_below {w w1 w2 : World} {C : Nat} (h : w.grownBy w1 (some C)) (hb : Below w.heap.size w1 w2) : w.grownBy w2 (some C) :=
  ⟨hb.os.trans h.os, hb.tape.trans h.tape, hb.output.trans h.output, Nat.le_trans h.size hb.size, fun j hj hne => (hb.block j hj).trans (h.block j hj hne)⟩
theorem grown_of_alloc {w w1 : World} {o : Obj} {C : Nat} (h : (w.alloc o).grownBy w1 (some C)) : w.grownBy w1 (some C) := by
  have ha := World.grownBy_alloc w o none
  exact ⟨h.os.trans ha.os, h.tape.trans ha.tape, h.output.trans ha.output, Nat.le_trans ha.size h.size, fun j hj hne => (h.block j (Nat.lt_of_lt_of_le hj ha.size) hne).trans (ha.block j hj (by simp))⟩

/-- What holds in a round: the row of all that was written, the cursor, the bytes. -/
def Onc (B D C : Nat) (w0 wr : World) (F : List UInt8) (A2 : Option Addr) (n c2 : Nat) (v : Value) (k k2 : Nat) (e : Int) : Prop :=
  wr.ownsRow D 5 1 v k (u8s (F.take k)) ∧ Cu C 75 wr C F k2 e ∧ Sl C wr A2 n c2 F ∧ Below B w0 wr ∧ D ≤ wr.heap.size
section
variable {B D C : Nat} {w0 w w' : World} {F : List UInt8} {A2 : Option Addr} {n c2 : Nat} {v : Value} {k k2 k3 : Nat} {e e3 : Int}
theorem Onc.turn (h : Onc B D C w0 w F A2 n c2 v k k2 e) (hcd : C < D) (hbc : B ≤ C) (hg : w.grownBy w' (some C)) (hcu : Cu C 75 w' C F k3 e3) : Onc B D C w0 w' F A2 n c2 v k k3 e3 := by
  obtain ⟨h1, _, h3, h4, h5⟩ := h
  exact ⟨own_grown h1 hcd hg, hcu, h3.below ((Below.refl C w).grown hg (by omega) (fun k e => by injection e with e; omega)), h4.grown hg (by omega) (fun k e => by injection e with e; omega), Nat.le_trans h5 hg.size⟩
theorem Onc.more (h : Onc B D C w0 w F A2 n c2 v k k2 e) (hcd : C < D) (hbc : B ≤ C) (hb : Below w.heap.size w w') : Onc B D C w0 w' F A2 n c2 v k k2 e := by
  obtain ⟨h1, h2, h3, h4, h5⟩ := h
  exact ⟨own_below h1 hb, h2.below hb h2.lt, h3.below (hb.mono (by omega)), h4.trans (hb.mono (by omega)), Nat.le_trans h5 hb.size⟩
theorem Onc.drewN (h : Onc B D C w0 w F A2 n c2 v k k2 e) (m : Nat) : Onc B D C w0 (w.drewN m) F A2 n c2 v k k2 e :=
  ⟨h.1, h.2.1, h.2.2.1, below_to_drewN' h.2.2.2.1 m, h.2.2.2.2⟩
theorem Onc.drew (h : Onc B D C w0 w F A2 n c2 v k k2 e) : Onc B D C w0 w.drew F A2 n c2 v k k2 e :=
  ⟨h.1, h.2.1, h.2.2.1, ⟨h.2.2.2.1.os, h.2.2.2.1.tape, h.2.2.2.1.output, h.2.2.2.1.size, h.2.2.2.1.block⟩, h.2.2.2.2⟩
theorem Onc.left (h : Onc B D C w0 w F A2 n c2 v k k2 e) (r : Nat) (hr : r = n - k2) :
    Calls Try.prog 28 #[.pointer (some ⟨C, 0, none⟩)] w fun x w' => x = .returned (.int .i64 (r : Int)) ∧ Onc B D C w0 w' F A2 n c2 v k k2 e := by
  refine (in_left h.2.1).mono ?_
  rintro x w' ⟨rfl, m, rfl⟩
  exact ⟨by rw [hr, h.2.2.1.1], h.drewN m⟩
theorem Onc.app {A : Option Addr} {c g5 k5 bl : Nat} {bs : List UInt8} (h : Onc B D C w0 w F A2 n c2 (.slice A k c) k k2 e) (hcd : C < D) (hbc : B ≤ C) (hbl : k + bl = k2) (hf : F.take k ++ bs = F.take k2)
    (hown : w'.ownsRow D 5 1 (.slice (some ⟨g5, 0, none⟩) (k + bl) k5) (k + bl) (u8s (F.take k) ++ u8s bs)) (hg : w.grownBy w' (Value.slice A k c).ownBlock) :
    Onc B D C w0 w' F A2 n c2 (.slice (some ⟨g5, 0, none⟩) k2 k5) k2 k2 e := by
  obtain ⟨h1, h2, h3, h4, h5⟩ := h
  rw [hbl, ← u8s_app, hf] at hown
  exact ⟨hown, h2.grown hg (fun j e => by have := (h1.lt j e).1; omega), h3.below ((Below.refl C w).grown hg (by omega) (fun j e => by have := (h1.lt j e).1; omega)), h4.grown hg (by omega) (fun j e => by have := (h1.lt j e).1; omega), Nat.le_trans h5 hg.size⟩
theorem Onc.conv {A : Option Addr} {c : Nat} {V : ByteArray} (h : Onc B D C w0 w F A2 n c2 (.slice A k c) k k2 e) (hk : k ≤ n) (hV : V = ⟨(F.take k).toArray⟩) :
    (convert 23 9 (.slice A k c)).run Try.prog w = .ok (.string V) w := by
  rw [hV]
  exact conv_rd A k c w.heap.size w (F.take k) (by rw [List.length_take, ← h.2.2.1.1]; omega) (own8_rd h.1)
theorem Onc.conv2 {V : ByteArray} (h : Onc B D C w0 w F A2 n c2 v k k2 e) (hk : k2 ≤ n) (hV : V = ⟨(F.take k2).toArray⟩) :
    (convert 23 9 (.slice A2 k2 c2)).run Try.prog w = .ok (.string V) w := by
  rw [hV]
  exact conv_rd A2 k2 c2 C w (F.take k2) (by rw [List.length_take, ← h.2.2.1.1]; omega) (h.2.2.1.head hk).2.2.1
end
theorem once_facts {F bs : List UInt8} {k n qn : Nat} {qe : Int} (hn : n = F.length) (hn40 : n ≤ 40) (hk : k ≤ n) (h : Pk.Kd (F.drop k) bs qn qe) :
    (qe = 0 → F.take k ++ bs = F.take (k + qn) ∧ k + qn ≤ n ∧ 0 < bs.length ∧ k + bs.length = k + qn) ∧ (qe ≠ 0 → k + qn = k) ∧ bs.length ≤ 100 := by
  obtain ⟨h1, h2, h3⟩ := h
  rw [List.length_drop] at h1 h3
  refine ⟨fun h0 => ?_, fun h0 => by rw [h2 h0]; omega, by omega⟩
  obtain ⟨e1, e2, e3⟩ := h1 h0
  have hl : bs.length = qn := by rw [e1, List.length_take, List.length_drop]; omega
  refine ⟨?_, by omega, by omega, by omega⟩
  rw [List.take_add, e1]
theorem once_in {w3 : World} {C O : Nat} {F : List UInt8} {k2 : Nat} {qe : Int} {fn : Nat} {args : Array Value} {xv : Value} (hO : w3.heap.size = O) (hCO : C < O)
    (h : Calls Try.prog fn args (w3.alloc (.cells #[.slice none 0 0] 25)) fun x w' => x = .returned xv ∧ Cu C 75 w' C F k2 qe ∧ (w3.alloc (.cells #[.slice none 0 0] 25)).grownBy w' (some C)) :
    Calls Try.prog fn args (w3.alloc (.cells #[.slice none 0 0] 25)) fun x w' => x = .returned xv ∧ w3.grownBy w' (some C) ∧ Cu C 75 w' C F k2 qe ∧ Ou O (O + 1) w' O [] := by
  refine h.mono ?_
  rintro x w' ⟨rfl, h1, h2⟩
  refine ⟨rfl, grown_of_alloc h2, h1, ?_⟩
  rw [← hO]
  exact (Ou.new w3).ahead h2 (by omega)
theorem once_out {B D C : Nat} {w0 w3 W : World} {F : List UInt8} {A2 : Option Addr} {n c2 : Nat} {v : Value} {k k0 k2 O : Nat} {qe e0 : Int} {fn : Nat} {args : Array Value} {bs : List UInt8}
    (hO : w3.heap.size = O) (hcd : C < D) (hbc : B ≤ C) (h3 : Onc B D C w0 w3 F A2 n c2 v k k0 e0) (hg : w3.grownBy W (some C)) (hcu : Cu C 75 W C F k2 qe)
    (h : Calls Try.prog fn args W fun e w' => (∃ r, e = .returned r) ∧ Ou O w'.heap.size w' O ([] ++ bs) ∧ Below O W w' ∧ Keeps W w') :
    Calls Try.prog fn args W fun e w' => (∃ r, e = .returned r) ∧ Onc B D C w0 w' F A2 n c2 v k k2 qe ∧ Ou O w'.heap.size w' O bs := by
  refine h.mono ?_
  rintro e w' ⟨hr, h1, h2, _⟩
  have hCO : C < O := by have := h3.2.2.2.2; omega
  exact ⟨hr, h3.turn hcd hbc (grown_then_below hg (by rw [hO]; exact h2)) (hcu.below h2 hCO), h1⟩

set_option maxRecDepth 100000 in
set_option maxHeartbeats 16000000 in
theorem once_walk (xs : List UInt8) (A : Option Addr) (m c : Nat) (os : List Pk.Od) (A1 : Option Addr) (m1 c1 : Nat) (w : World) (hm : m = xs.length) (hmb : m ≤ 9223372036854775807) (hmc : m ≤ c) (hA : Rd w.heap.size w A (u8s xs)) (hnil : A = none → c = 0)
    (hm1 : m1 = os.length) (hmb1 : m1 ≤ 9223372036854775807) (hok : ∀ o ∈ os, o.ok) (hA1 : Ods w.heap.size w A1 os) :
    Calls Try.prog 6 #[.slice A m c, .slice A1 m1 c1] w fun e w' => e = .returned (.bool true) ∧ Below w.heap.size w w' := by
  obtain ⟨i0, hi0, hz0, hz1, hz2⟩ := info_parts info_u8
  obtain ⟨B, hBe⟩ : ∃ B, B = w.heap.size := ⟨_, rfl⟩
  have hfew := few_any xs A m c 40 w hm hmc (by omega) hA hnil
  obtain ⟨n, hn⟩ : ∃ n, n = min m 40 := ⟨_, rfl⟩
  obtain ⟨F, hF⟩ : ∃ F, F = xs.take 40 := ⟨_, rfl⟩
  have hn40 : n ≤ 40 := by omega
  rw [← hn, ← hF, ← hBe, show ((40 : Nat) : Int) = 40 from rfl] at hfew
  rw [← hBe] at hA1 ⊢
  have HFEW := Lib.hid hfew
  have HBS := Lib.hid hBe
  have HM := Lib.hid hm1
  have HA := Lib.hid (And.intro hA1 hok)
  have HI := Lib.hid hi0
  have HZ0 := Lib.hid hz0
  have HZ1 := Lib.hid hz1
  have HZ2 := Lib.hid hz2
  have e0 : w.heap.size = B := hBe.symm
  clear hi0 hz0 hz1 hz2 hBe hfew hm1 hA1 hok hA hnil hn hF hm hmb hmc
  go_enter Try.func6, Try.ntmps6
  go_wp2_with fail
  refine (HFEW.out).mono ?_
  rintro e w1 ⟨A2, c2, rfl, hown, hb1⟩
  have hs := Sl.own hown
  have HO := Lib.hid (open_any A2 F n c2 w1 hs.1 (by omega) hs.2.2.1 hs.2.2.2)
  have HS1 := Lib.hid hs
  have HB1 := Lib.hid hb1
  have hBw1 : B ≤ w1.heap.size := by have := hb1.size; omega
  clear hs hown hb1 HFEW
  go_wp2_with fail
  refine (HO.out).mono ?_
  rintro e w2 ⟨C, rfl, hCl, hcu, hb2⟩
  have hBC : B ≤ C := Nat.le_trans hBw1 hCl
  obtain ⟨D, hD⟩ : ∃ D, D = w2.heap.size := ⟨_, rfl⟩
  have hCD : C < D := by rw [hD]; exact hcu.lt
  have HS := Lib.hid (show Onc B D C w w2 F A2 n c2 (.slice none 0 0) 0 0 0 from ⟨by rw [List.take_zero]; exact World.ownsRow_nil w2 D 5 1, hcu, (HS1.out.below hb2).more hCl, HB1.out.trans (hb2.mono hBw1), by omega⟩)
  clear hcu hb2 hD HS1 HB1 HO hCl hBw1
  go_wp2
  go_loopw [7, 8, 9, 10] (fun o i _ _ wr => ∃ t k : Nat, i = .int .i64 t ∧ t ≤ m1 ∧ t ≤ 12 ∧ k ≤ n ∧ (∃ A' c', o = .slice A' k c') ∧ Onc B D C w wr F A2 n c2 o k k 0) (fun _ i _ _ _ => m1 - (intOf i).toNat)
  case atStart => exact ⟨0, 0, rfl, Nat.zero_le _, by omega, Nat.zero_le _, ⟨_, _, rfl⟩, HS.out⟩
  case round =>
    obtain ⟨t, k, rfl, ht, ht12, hkn, ⟨A3, c3, rfl⟩, hon⟩ := hrel
    clear HS
    by_cases hc : t < m1 ∧ t < 12
    · obtain ⟨ht1, ht2⟩ := hc
      have htl : t < os.length := by rw [← HM.out]; exact ht1
      obtain ⟨b, off, hAe, hbB, q0, q1, q2⟩ := (HA.out.1.below hon.2.2.2.1).at_ htl
      subst hAe
      have hok := HA.out.2 os[t] (List.getElem_mem htl)
      obtain ⟨o, ho⟩ : ∃ o, o = os[t] := ⟨_, rfl⟩
      rw [← ho] at q0 hok
      have hlt := Pk.aro_lt o.d (k := 7) (by omega)
      have HAR := Lib.hid (fun W : World => aro_is o.d 7 W hok.1 hok.2.1 (by omega) (by omega))
      rw [show ((7 : Nat) : Int) = 7 from rfl] at HAR
      obtain ⟨r, hr⟩ : ∃ r, r = Pk.aro o.d 7 := ⟨_, rfl⟩
      rw [← hr] at HAR hlt
      obtain ⟨dd, hdd⟩ : ∃ dd, dd = o.d := ⟨_, rfl⟩
      rw [← hdd] at HAR q0
      obtain ⟨hd, hhd⟩ : ∃ hd, hd = n - k := ⟨_, rfl⟩
      have HHD := Lib.hid hhd
      have HL := Lib.hid (hon.left hd hhd)
      have HDON := Lib.hid (show ∀ W : World, Onc B D C w W F A2 n c2 (.slice A3 k c3) k k 0 → True from fun _ _ => trivial)
      have HON := Lib.hid hon
      have h7 : r = 4 ∨ r = 5 ∨ r = 6 ∨ r = 2 ∨ r = 3 ∨ r = 0 ∨ r = 1 := by omega
      clear hon q0 q1 q2 hok hhd hlt hr HDON
      go_wp2_with fail
      refine (HL.out).mono ?_
      rintro e w3 ⟨rfl, hon3⟩
      have q0 : w3.cell? ⟨b, off + t * 3, none⟩ = some (.int .i64 dd) := by
        rw [hdd, ho]
        obtain ⟨b', off', e, _, h, _⟩ := (HA.out.1.below hon3.2.2.2.1).at_ htl
        injection e with e
        injection e with e1 e2
        subst e1 e2
        exact h
      have q0a : (w3.alloc (.cells #[.slice none 0 0] 25)).cell? ⟨b, off + t * 3, none⟩ = some (.int .i64 dd) := Lib.cell?_alloc_some _ q0
      obtain ⟨O, hO⟩ : ∃ O, O = w3.heap.size := ⟨_, rfl⟩
      have e3 : w3.heap.size = O := hO.symm
      have hDO : D ≤ O := by rw [hO]; exact hon3.2.2.2.2
      have hCO : C < O := by omega
      have HC4 := Lib.hid (hon3.2.1.alloc (.cells #[.slice none 0 0] 25))
      have HON3 := Lib.hid hon3
      have HE3 := Lib.hid e3
      have hK := fun {bs : List UInt8} {qn : Nat} {qe : Int} (h : Pk.Kd (F.drop k) bs qn qe) => once_facts hon3.2.2.1.1 hn40 hkn h
      have hl40 : (F.drop k).length ≤ 40 := by rw [List.length_drop, ← hon3.2.2.1.1]; omega
      clear hon3 hO HL HON ho hdd htl
      go_wp2_with fail
      refine (HAR.out _).mono ?_
      rintro x w4 ⟨rfl, rfl⟩
      rcases h7 with rfl | rfl | rfl | rfl | rfl | rfl | rfl
      · have hrd := once_in HE3.out hCO (in_num HC4.out)
        have hkd := Pk.kd_num (F.drop k)
        have hbd := Pk.sev_lt64 (F.drop k)
        have hbd : (Pk.pNum (F.drop k)).v < 18446744073709551616 := Pk.sev_lt64 (F.drop k)
        obtain ⟨q, hq⟩ : ∃ q, q = Pk.pNum (F.drop k) := ⟨_, rfl⟩
        rw [Pk.stp_ok, ← hq] at hrd
        rw [← hq] at hkd hbd
        have hfk := hK hkd
        obtain ⟨k2, hk2⟩ : ∃ k2, k2 = k + q.n := ⟨_, rfl⟩
        obtain ⟨qe, hqe⟩ : ∃ qe, qe = q.e := ⟨_, rfl⟩
        obtain ⟨bs, hbs⟩ : ∃ bs, bs = Pk.num q.v := ⟨_, rfl⟩
        rw [← hk2, ← hqe] at hrd
        rw [← hk2, ← hqe, ← hbs] at hfk
        have hwr := fun (W : World) (h1 : w3.grownBy W (some C)) (h2 : Cu C 75 W C F k2 qe) (h3 : Ou O (O + 1) W O []) => once_out HE3.out hCD hBC HON3.out h1 h2 (onum_any q.v hbd (by simp) h3)
        simp only [← hbs] at hwr
        obtain ⟨v, hv⟩ : ∃ v, v = q.v := ⟨_, rfl⟩
        rw [← hv] at hrd
        simp only [← hv] at hwr
        have HRD := Lib.hid hrd
        have HWR := Lib.hid hwr
        have HFK := Lib.hid hfk
        clear hrd hwr hfk hv hbs hqe hk2 hq hkd hK hl40 HC4 hbd
        go_wp2_with fail
        refine (HRD.out).mono ?_
        rintro x w6 ⟨rfl, hg6, hcu6, hou6⟩
        have H6 := Lib.hid (And.intro hg6 (And.intro hcu6 hou6))
        clear hg6 hcu6 hou6
        unfold u64v
        go_wp2_with fail
        refine (HWR.out _ H6.out.1 H6.out.2.1 H6.out.2.2).mono ?_
        rintro x w7 ⟨⟨_, rfl⟩, hon7, hou7⟩
        have HON7 := Lib.hid hon7
        have HOU7 := Lib.hid hou7
        have HER := Lib.hid (in_err hon7.2.1)
        clear hon7 hou7 HRD HWR H6 HON3 HE3 q0 q0a e3
        go_wp2_with fail
        refine (HER.out).mono ?_
        rintro x w8 ⟨rfl, rfl⟩
        by_cases hz : qe = 0
        · subst hz
          obtain ⟨f1, f2, f3, f4⟩ := HFK.out.1 rfl
          have hbl0 := HFK.out.2.2
          have hby := obytes_any (by omega) HOU7.out
          have hlc : (u8s bs).length = bs.length * 1 := by rw [u8s_len, Nat.mul_one]
          have hpp := f3
          obtain ⟨b2, o2, hA2, _⟩ := HON7.out.2.2.1.2.2.1 (by rw [u8s_len, ← HON7.out.2.2.1.1]; omega)
          subst hA2
          have hkc2 : k2 ≤ c2 := Nat.le_trans f2 HON7.out.2.2.1.2.1
          have HBY := Lib.hid hby
          have HF := Lib.hid (And.intro f1 (And.intro f2 f4))
          have HLC := Lib.hid hlc
          have HSZ := Lib.hid (show k + bs.length ≤ maxLen ∧ (k + bs.length) * 1 ≤ 140737488355328 from ⟨by unfold maxLen; omega, by omega⟩)
          obtain ⟨r2, hr2⟩ : ∃ r2, r2 = n - k2 := ⟨_, rfl⟩
          have HR2 := Lib.hid hr2
          obtain ⟨V, hV⟩ : ∃ V : ByteArray, V = ⟨(F.take k2).toArray⟩ := ⟨_, rfl⟩
          have HV := Lib.hid hV
          have hsub : (n : Int) - (r2 : Int) = (k2 : Int) := by omega
          have g1 : ¬ ((r2 : Int) < 0) := by omega
          have g2 : ¬ (n < r2) := by omega
          have q9 : (k2 : Int) ≤ (c2 : Int) := by omega
          have q8 : ¬ c2 = 0 := by omega
          have q7 : IntKind.i64.wrap (k2 : Int) = (k2 : Int) := by rw [IntKind.wrap_i64]; omega
          have q5 : k2 ≤ 40 := by omega
          clear f1 f2 f3 f4 hbl0 hby hlc hr2 hV HFK HER HOU7 hkc2
          go_wp2_with fail
          refine (HBY.out).mono ?_
          intro x w9 hby
          obtain ⟨g4, k4, rfl, ho4, hbe4⟩ := (show Bys w7 w9 x bs from hby).form hpp
          have H4 := Lib.hid (all_step HON7.out.1 (Below.refl D w7) ho4 hbe4 HON7.out.2.2.2.2)
          have HON9 := Lib.hid (HON7.out.more hCD hBC hbe4)
          clear ho4 hbe4 hby HON7 HBY
          go_wp2_with (at_builtin; refine wpList_append_lies w9 rfl _ _ 23 rfl D 5 i0 (.int .u8 0) 1 1 Try.underlying23 HI.out HZ0.out HZ1.out HZ2.out rfl (by decide) (.slice A3 k c3) k _ rfl H4.out.1 ⟨g4, 0, none⟩ bs.length k4 (u8s bs) rfl HLC.out H4.out.2.1 (u8s_one_cell bs) hpp HSZ.out.1 HSZ.out.2 H4.out.2.2.1 _ rfl ?_; intro g5 k5 w10 hown hgrow _ _; have H10 := Lib.hid (HON9.out.app hCD hBC HF.out.2.2 HF.out.1 hown hgrow); rw [HF.out.2.2]; clear hown hgrow)
          refine (H10.out.left r2 HR2.out).mono ?_
          rintro x w11 ⟨rfl, h11⟩
          have H11 := Lib.hid h11
          clear h11 H10 H4 HON9
          go_wp2_with fail
          refine (H11.out.left r2 HR2.out).mono ?_
          rintro x w12 ⟨rfl, h12⟩
          have H12 := Lib.hid h12
          have HL12 := Lib.hid (h12.drew.left r2 HR2.out)
          have cA0 := h12.drew.conv HF.out.2.1 HV.out
          clear h12 H11
          go_wp2_with fail
          go_region_with (first
            | (go_at_call 28; ((with_reducible refine (HL12.out).mono ?_); rintro x w13 ⟨rfl, h13⟩; have H13 := Lib.hid h13; have cA1 := h13.conv HF.out.2.1 HV.out; have cB1 := h13.conv2 HF.out.2.1 HV.out; clear h13)))
          all_goals
            have HFN := Lib.hid (And.intro H13.out HF.out.2.1)
            clear cA0 cA1 cB1 H12 HL12 H13 HF HSZ HLC HV HR2
            go_wp2
            go_roundw
            case rel => exact ⟨t + 1, k2, by go_num, ht1, ht2, HFN.out.2, ⟨_, _, rfl⟩, HFN.out.1⟩
            case measure => simp [intOf]; omega
        · have hkk := HFK.out.2.1 hz
          have z1 : (qe == 0) = false := by rw [beq_eq_false_iff_ne]; exact hz
          have HLF := Lib.hid (HON7.out.left hd (by rw [hkk]; exact HHD.out))
          clear hkk HFK HER HOU7 HON7
          go_wp2_with fail
          refine (HLF.out).mono ?_
          rintro x w9 ⟨rfl, h9⟩
          have H9 := Lib.hid (And.intro h9.2.2.2.1 (Nat.le_trans (Nat.le_trans hBC (Nat.le_of_lt hCD)) h9.2.2.2.2))
          clear h9 HLF
          go_wp2_with fail
          refine (plives_any _).mono ?_
          rintro x w10 ⟨rfl, hb10⟩
          have hfin : Below B w w10 := H9.out.1.trans (hb10.mono H9.out.2)
          clear hb10
          go_wp2
          go_ret
          exact ⟨rfl, hfin⟩
      · have hrd := once_in HE3.out hCO (in_name HC4.out)
        have hkd := Pk.kd_name (F.drop k)
        have hbd := Pk.pname_bounds (F.drop k)
        obtain ⟨q, hq⟩ : ∃ q, q = Pk.pName (F.drop k) := ⟨_, rfl⟩
        rw [Pk.stp_ok, ← hq] at hrd
        rw [← hq] at hkd hbd
        have hfk := hK hkd
        obtain ⟨k2, hk2⟩ : ∃ k2, k2 = k + q.n := ⟨_, rfl⟩
        obtain ⟨qe, hqe⟩ : ∃ qe, qe = q.e := ⟨_, rfl⟩
        obtain ⟨bs, hbs⟩ : ∃ bs, bs = Pk.nName q.v := ⟨_, rfl⟩
        rw [← hk2, ← hqe] at hrd
        rw [← hk2, ← hqe, ← hbs] at hfk
        have hwr := fun (W : World) (h1 : w3.grownBy W (some C)) (h2 : Cu C 75 W C F k2 qe) (h3 : Ou O (O + 1) W O []) => once_out HE3.out hCD hBC HON3.out h1 h2 (oname_any q.v hbd.1.1 hbd.1.2 hbd.2.1.1 hbd.2.1.2 hbd.2.2 (by simp) h3)
        simp only [← hbs] at hwr
        obtain ⟨v, hv⟩ : ∃ v, v = q.v := ⟨_, rfl⟩
        rw [← hv] at hrd
        simp only [← hv] at hwr
        have HRD := Lib.hid hrd
        have HWR := Lib.hid hwr
        have HFK := Lib.hid hfk
        clear hrd hwr hfk hv hbs hqe hk2 hq hkd hK hl40 HC4 hbd
        go_wp2_with fail
        refine (HRD.out).mono ?_
        rintro x w6 ⟨rfl, hg6, hcu6, hou6⟩
        have H6 := Lib.hid (And.intro hg6 (And.intro hcu6 hou6))
        clear hg6 hcu6 hou6
        unfold nmv
        go_wp2_with fail
        refine (HWR.out _ H6.out.1 H6.out.2.1 H6.out.2.2).mono ?_
        rintro x w7 ⟨⟨_, rfl⟩, hon7, hou7⟩
        have HON7 := Lib.hid hon7
        have HOU7 := Lib.hid hou7
        have HER := Lib.hid (in_err hon7.2.1)
        clear hon7 hou7 HRD HWR H6 HON3 HE3 q0 q0a e3
        go_wp2_with fail
        refine (HER.out).mono ?_
        rintro x w8 ⟨rfl, rfl⟩
        by_cases hz : qe = 0
        · subst hz
          obtain ⟨f1, f2, f3, f4⟩ := HFK.out.1 rfl
          have hbl0 := HFK.out.2.2
          have hby := obytes_any (by omega) HOU7.out
          have hlc : (u8s bs).length = bs.length * 1 := by rw [u8s_len, Nat.mul_one]
          have hpp := f3
          obtain ⟨b2, o2, hA2, _⟩ := HON7.out.2.2.1.2.2.1 (by rw [u8s_len, ← HON7.out.2.2.1.1]; omega)
          subst hA2
          have hkc2 : k2 ≤ c2 := Nat.le_trans f2 HON7.out.2.2.1.2.1
          have HBY := Lib.hid hby
          have HF := Lib.hid (And.intro f1 (And.intro f2 f4))
          have HLC := Lib.hid hlc
          have HSZ := Lib.hid (show k + bs.length ≤ maxLen ∧ (k + bs.length) * 1 ≤ 140737488355328 from ⟨by unfold maxLen; omega, by omega⟩)
          obtain ⟨r2, hr2⟩ : ∃ r2, r2 = n - k2 := ⟨_, rfl⟩
          have HR2 := Lib.hid hr2
          obtain ⟨V, hV⟩ : ∃ V : ByteArray, V = ⟨(F.take k2).toArray⟩ := ⟨_, rfl⟩
          have HV := Lib.hid hV
          have hsub : (n : Int) - (r2 : Int) = (k2 : Int) := by omega
          have g1 : ¬ ((r2 : Int) < 0) := by omega
          have g2 : ¬ (n < r2) := by omega
          have q9 : (k2 : Int) ≤ (c2 : Int) := by omega
          have q8 : ¬ c2 = 0 := by omega
          have q7 : IntKind.i64.wrap (k2 : Int) = (k2 : Int) := by rw [IntKind.wrap_i64]; omega
          have q5 : k2 ≤ 40 := by omega
          clear f1 f2 f3 f4 hbl0 hby hlc hr2 hV HFK HER HOU7 hkc2
          go_wp2_with fail
          refine (HBY.out).mono ?_
          intro x w9 hby
          obtain ⟨g4, k4, rfl, ho4, hbe4⟩ := (show Bys w7 w9 x bs from hby).form hpp
          have H4 := Lib.hid (all_step HON7.out.1 (Below.refl D w7) ho4 hbe4 HON7.out.2.2.2.2)
          have HON9 := Lib.hid (HON7.out.more hCD hBC hbe4)
          clear ho4 hbe4 hby HON7 HBY
          go_wp2_with (at_builtin; refine wpList_append_lies w9 rfl _ _ 23 rfl D 5 i0 (.int .u8 0) 1 1 Try.underlying23 HI.out HZ0.out HZ1.out HZ2.out rfl (by decide) (.slice A3 k c3) k _ rfl H4.out.1 ⟨g4, 0, none⟩ bs.length k4 (u8s bs) rfl HLC.out H4.out.2.1 (u8s_one_cell bs) hpp HSZ.out.1 HSZ.out.2 H4.out.2.2.1 _ rfl ?_; intro g5 k5 w10 hown hgrow _ _; have H10 := Lib.hid (HON9.out.app hCD hBC HF.out.2.2 HF.out.1 hown hgrow); rw [HF.out.2.2]; clear hown hgrow)
          refine (H10.out.left r2 HR2.out).mono ?_
          rintro x w11 ⟨rfl, h11⟩
          have H11 := Lib.hid h11
          clear h11 H10 H4 HON9
          go_wp2_with fail
          refine (H11.out.left r2 HR2.out).mono ?_
          rintro x w12 ⟨rfl, h12⟩
          have H12 := Lib.hid h12
          have HL12 := Lib.hid (h12.drew.left r2 HR2.out)
          have cA0 := h12.drew.conv HF.out.2.1 HV.out
          clear h12 H11
          go_wp2_with fail
          go_region_with (first
            | (go_at_call 28; ((with_reducible refine (HL12.out).mono ?_); rintro x w13 ⟨rfl, h13⟩; have H13 := Lib.hid h13; have cA1 := h13.conv HF.out.2.1 HV.out; have cB1 := h13.conv2 HF.out.2.1 HV.out; clear h13)))
          all_goals
            have HFN := Lib.hid (And.intro H13.out HF.out.2.1)
            clear cA0 cA1 cB1 H12 HL12 H13 HF HSZ HLC HV HR2
            go_wp2
            go_roundw
            case rel => exact ⟨t + 1, k2, by go_num, ht1, ht2, HFN.out.2, ⟨_, _, rfl⟩, HFN.out.1⟩
            case measure => simp [intOf]; omega
        · have hkk := HFK.out.2.1 hz
          have z1 : (qe == 0) = false := by rw [beq_eq_false_iff_ne]; exact hz
          have HLF := Lib.hid (HON7.out.left hd (by rw [hkk]; exact HHD.out))
          clear hkk HFK HER HOU7 HON7
          go_wp2_with fail
          refine (HLF.out).mono ?_
          rintro x w9 ⟨rfl, h9⟩
          have H9 := Lib.hid (And.intro h9.2.2.2.1 (Nat.le_trans (Nat.le_trans hBC (Nat.le_of_lt hCD)) h9.2.2.2.2))
          clear h9 HLF
          go_wp2_with fail
          refine (plives_any _).mono ?_
          rintro x w10 ⟨rfl, hb10⟩
          have hfin : Below B w w10 := H9.out.1.trans (hb10.mono H9.out.2)
          clear hb10
          go_wp2
          go_ret
          exact ⟨rfl, hfin⟩
      · have hrd := once_in HE3.out hCO (in_many 20 (by omega) (by omega) HC4.out)
        have hkd := Pk.kd_many 20 (F.drop k)
        have hbd := Pk.pmany_bounds 20 (F.drop k)
        obtain ⟨q, hq⟩ : ∃ q, q = Pk.pMany 20 (F.drop k) := ⟨_, rfl⟩
        rw [Pk.stp_ok, ← hq] at hrd
        rw [← hq] at hkd hbd
        have hfk := hK hkd
        obtain ⟨k2, hk2⟩ : ∃ k2, k2 = k + q.n := ⟨_, rfl⟩
        obtain ⟨qe, hqe⟩ : ∃ qe, qe = q.e := ⟨_, rfl⟩
        obtain ⟨bs, hbs⟩ : ∃ bs, bs = Pk.nInt q.v := ⟨_, rfl⟩
        rw [← hk2, ← hqe] at hrd
        rw [← hk2, ← hqe, ← hbs] at hfk
        have hwr := fun (W : World) (h1 : w3.grownBy W (some C)) (h2 : Cu C 75 W C F k2 qe) (h3 : Ou O (O + 1) W O []) => once_out HE3.out hCD hBC HON3.out h1 h2 (oint_any q.v hbd.1 hbd.2 (by simp) h3)
        simp only [← hbs] at hwr
        obtain ⟨v, hv⟩ : ∃ v, v = q.v := ⟨_, rfl⟩
        rw [← hv] at hrd
        simp only [← hv] at hwr
        have HRD := Lib.hid hrd
        have HWR := Lib.hid hwr
        have HFK := Lib.hid hfk
        clear hrd hwr hfk hv hbs hqe hk2 hq hkd hK hl40 HC4 hbd
        go_wp2_with fail
        refine (HRD.out).mono ?_
        rintro x w6 ⟨rfl, hg6, hcu6, hou6⟩
        have H6 := Lib.hid (And.intro hg6 (And.intro hcu6 hou6))
        clear hg6 hcu6 hou6
        unfold i64v
        go_wp2_with fail
        refine (HWR.out _ H6.out.1 H6.out.2.1 H6.out.2.2).mono ?_
        rintro x w7 ⟨⟨_, rfl⟩, hon7, hou7⟩
        have HON7 := Lib.hid hon7
        have HOU7 := Lib.hid hou7
        have HER := Lib.hid (in_err hon7.2.1)
        clear hon7 hou7 HRD HWR H6 HON3 HE3 q0 q0a e3
        go_wp2_with fail
        refine (HER.out).mono ?_
        rintro x w8 ⟨rfl, rfl⟩
        by_cases hz : qe = 0
        · subst hz
          obtain ⟨f1, f2, f3, f4⟩ := HFK.out.1 rfl
          have hbl0 := HFK.out.2.2
          have hby := obytes_any (by omega) HOU7.out
          have hlc : (u8s bs).length = bs.length * 1 := by rw [u8s_len, Nat.mul_one]
          have hpp := f3
          obtain ⟨b2, o2, hA2, _⟩ := HON7.out.2.2.1.2.2.1 (by rw [u8s_len, ← HON7.out.2.2.1.1]; omega)
          subst hA2
          have hkc2 : k2 ≤ c2 := Nat.le_trans f2 HON7.out.2.2.1.2.1
          have HBY := Lib.hid hby
          have HF := Lib.hid (And.intro f1 (And.intro f2 f4))
          have HLC := Lib.hid hlc
          have HSZ := Lib.hid (show k + bs.length ≤ maxLen ∧ (k + bs.length) * 1 ≤ 140737488355328 from ⟨by unfold maxLen; omega, by omega⟩)
          obtain ⟨r2, hr2⟩ : ∃ r2, r2 = n - k2 := ⟨_, rfl⟩
          have HR2 := Lib.hid hr2
          obtain ⟨V, hV⟩ : ∃ V : ByteArray, V = ⟨(F.take k2).toArray⟩ := ⟨_, rfl⟩
          have HV := Lib.hid hV
          have hsub : (n : Int) - (r2 : Int) = (k2 : Int) := by omega
          have g1 : ¬ ((r2 : Int) < 0) := by omega
          have g2 : ¬ (n < r2) := by omega
          have q9 : (k2 : Int) ≤ (c2 : Int) := by omega
          have q8 : ¬ c2 = 0 := by omega
          have q7 : IntKind.i64.wrap (k2 : Int) = (k2 : Int) := by rw [IntKind.wrap_i64]; omega
          have q5 : k2 ≤ 40 := by omega
          clear f1 f2 f3 f4 hbl0 hby hlc hr2 hV HFK HER HOU7 hkc2
          go_wp2_with fail
          refine (HBY.out).mono ?_
          intro x w9 hby
          obtain ⟨g4, k4, rfl, ho4, hbe4⟩ := (show Bys w7 w9 x bs from hby).form hpp
          have H4 := Lib.hid (all_step HON7.out.1 (Below.refl D w7) ho4 hbe4 HON7.out.2.2.2.2)
          have HON9 := Lib.hid (HON7.out.more hCD hBC hbe4)
          clear ho4 hbe4 hby HON7 HBY
          go_wp2_with (at_builtin; refine wpList_append_lies w9 rfl _ _ 23 rfl D 5 i0 (.int .u8 0) 1 1 Try.underlying23 HI.out HZ0.out HZ1.out HZ2.out rfl (by decide) (.slice A3 k c3) k _ rfl H4.out.1 ⟨g4, 0, none⟩ bs.length k4 (u8s bs) rfl HLC.out H4.out.2.1 (u8s_one_cell bs) hpp HSZ.out.1 HSZ.out.2 H4.out.2.2.1 _ rfl ?_; intro g5 k5 w10 hown hgrow _ _; have H10 := Lib.hid (HON9.out.app hCD hBC HF.out.2.2 HF.out.1 hown hgrow); rw [HF.out.2.2]; clear hown hgrow)
          refine (H10.out.left r2 HR2.out).mono ?_
          rintro x w11 ⟨rfl, h11⟩
          have H11 := Lib.hid h11
          clear h11 H10 H4 HON9
          go_wp2_with fail
          refine (H11.out.left r2 HR2.out).mono ?_
          rintro x w12 ⟨rfl, h12⟩
          have H12 := Lib.hid h12
          have HL12 := Lib.hid (h12.drew.left r2 HR2.out)
          have cA0 := h12.drew.conv HF.out.2.1 HV.out
          clear h12 H11
          go_wp2_with fail
          go_region_with (first
            | (go_at_call 28; ((with_reducible refine (HL12.out).mono ?_); rintro x w13 ⟨rfl, h13⟩; have H13 := Lib.hid h13; have cA1 := h13.conv HF.out.2.1 HV.out; have cB1 := h13.conv2 HF.out.2.1 HV.out; clear h13)))
          all_goals
            have HFN := Lib.hid (And.intro H13.out HF.out.2.1)
            clear cA0 cA1 cB1 H12 HL12 H13 HF HSZ HLC HV HR2
            go_wp2
            go_roundw
            case rel => exact ⟨t + 1, k2, by go_num, ht1, ht2, HFN.out.2, ⟨_, _, rfl⟩, HFN.out.1⟩
            case measure => simp [intOf]; omega
        · have hkk := HFK.out.2.1 hz
          have z1 : (qe == 0) = false := by rw [beq_eq_false_iff_ne]; exact hz
          have HLF := Lib.hid (HON7.out.left hd (by rw [hkk]; exact HHD.out))
          clear hkk HFK HER HOU7 HON7
          go_wp2_with fail
          refine (HLF.out).mono ?_
          rintro x w9 ⟨rfl, h9⟩
          have H9 := Lib.hid (And.intro h9.2.2.2.1 (Nat.le_trans (Nat.le_trans hBC (Nat.le_of_lt hCD)) h9.2.2.2.2))
          clear h9 HLF
          go_wp2_with fail
          refine (plives_any _).mono ?_
          rintro x w10 ⟨rfl, hb10⟩
          have hfin : Below B w w10 := H9.out.1.trans (hb10.mono H9.out.2)
          clear hb10
          go_wp2
          go_ret
          exact ⟨rfl, hfin⟩
      · have hrd := once_in HE3.out hCO (in_text HC4.out)
        have hkd := Pk.kd_text (F.drop k) (by omega)
        have hbd := Pk.ptext_len (F.drop k)
        obtain ⟨q, hq⟩ : ∃ q, q = Pk.pText (F.drop k) := ⟨_, rfl⟩
        rw [Pk.stp_ok, ← hq] at hrd
        rw [← hq] at hkd hbd
        have hfk := hK hkd
        obtain ⟨k2, hk2⟩ : ∃ k2, k2 = k + q.n := ⟨_, rfl⟩
        obtain ⟨qe, hqe⟩ : ∃ qe, qe = q.e := ⟨_, rfl⟩
        obtain ⟨bs, hbs⟩ : ∃ bs, bs = Pk.nText q.v := ⟨_, rfl⟩
        rw [← hk2, ← hqe] at hrd
        rw [← hk2, ← hqe, ← hbs] at hfk
        have hwr := fun (W : World) (h1 : w3.grownBy W (some C)) (h2 : Cu C 75 W C F k2 qe) (h3 : Ou O (O + 1) W O []) => once_out HE3.out hCD hBC HON3.out h1 h2 (by simpa using otext_any ⟨q.v.toArray⟩ (by show q.v.toArray.size ≤ 1000; rw [List.size_toArray]; omega) (by simp) h3)
        simp only [← hbs] at hwr
        unfold strv at hrd
        obtain ⟨v, hv⟩ : ∃ v : ByteArray, v = ⟨q.v.toArray⟩ := ⟨_, rfl⟩
        rw [← hv] at hrd
        simp only [← hv] at hwr
        have HRD := Lib.hid hrd
        have HWR := Lib.hid hwr
        have HFK := Lib.hid hfk
        clear hrd hwr hfk hv hbs hqe hk2 hq hkd hK hl40 HC4 hbd
        go_wp2_with fail
        refine (HRD.out).mono ?_
        rintro x w6 ⟨rfl, hg6, hcu6, hou6⟩
        have H6 := Lib.hid (And.intro hg6 (And.intro hcu6 hou6))
        clear hg6 hcu6 hou6
        skip
        go_wp2_with fail
        refine (HWR.out _ H6.out.1 H6.out.2.1 H6.out.2.2).mono ?_
        rintro x w7 ⟨⟨_, rfl⟩, hon7, hou7⟩
        have HON7 := Lib.hid hon7
        have HOU7 := Lib.hid hou7
        have HER := Lib.hid (in_err hon7.2.1)
        clear hon7 hou7 HRD HWR H6 HON3 HE3 q0 q0a e3
        go_wp2_with fail
        refine (HER.out).mono ?_
        rintro x w8 ⟨rfl, rfl⟩
        by_cases hz : qe = 0
        · subst hz
          obtain ⟨f1, f2, f3, f4⟩ := HFK.out.1 rfl
          have hbl0 := HFK.out.2.2
          have hby := obytes_any (by omega) HOU7.out
          have hlc : (u8s bs).length = bs.length * 1 := by rw [u8s_len, Nat.mul_one]
          have hpp := f3
          obtain ⟨b2, o2, hA2, _⟩ := HON7.out.2.2.1.2.2.1 (by rw [u8s_len, ← HON7.out.2.2.1.1]; omega)
          subst hA2
          have hkc2 : k2 ≤ c2 := Nat.le_trans f2 HON7.out.2.2.1.2.1
          have HBY := Lib.hid hby
          have HF := Lib.hid (And.intro f1 (And.intro f2 f4))
          have HLC := Lib.hid hlc
          have HSZ := Lib.hid (show k + bs.length ≤ maxLen ∧ (k + bs.length) * 1 ≤ 140737488355328 from ⟨by unfold maxLen; omega, by omega⟩)
          obtain ⟨r2, hr2⟩ : ∃ r2, r2 = n - k2 := ⟨_, rfl⟩
          have HR2 := Lib.hid hr2
          obtain ⟨V, hV⟩ : ∃ V : ByteArray, V = ⟨(F.take k2).toArray⟩ := ⟨_, rfl⟩
          have HV := Lib.hid hV
          have hsub : (n : Int) - (r2 : Int) = (k2 : Int) := by omega
          have g1 : ¬ ((r2 : Int) < 0) := by omega
          have g2 : ¬ (n < r2) := by omega
          have q9 : (k2 : Int) ≤ (c2 : Int) := by omega
          have q8 : ¬ c2 = 0 := by omega
          have q7 : IntKind.i64.wrap (k2 : Int) = (k2 : Int) := by rw [IntKind.wrap_i64]; omega
          have q5 : k2 ≤ 40 := by omega
          clear f1 f2 f3 f4 hbl0 hby hlc hr2 hV HFK HER HOU7 hkc2
          go_wp2_with fail
          refine (HBY.out).mono ?_
          intro x w9 hby
          obtain ⟨g4, k4, rfl, ho4, hbe4⟩ := (show Bys w7 w9 x bs from hby).form hpp
          have H4 := Lib.hid (all_step HON7.out.1 (Below.refl D w7) ho4 hbe4 HON7.out.2.2.2.2)
          have HON9 := Lib.hid (HON7.out.more hCD hBC hbe4)
          clear ho4 hbe4 hby HON7 HBY
          go_wp2_with (at_builtin; refine wpList_append_lies w9 rfl _ _ 23 rfl D 5 i0 (.int .u8 0) 1 1 Try.underlying23 HI.out HZ0.out HZ1.out HZ2.out rfl (by decide) (.slice A3 k c3) k _ rfl H4.out.1 ⟨g4, 0, none⟩ bs.length k4 (u8s bs) rfl HLC.out H4.out.2.1 (u8s_one_cell bs) hpp HSZ.out.1 HSZ.out.2 H4.out.2.2.1 _ rfl ?_; intro g5 k5 w10 hown hgrow _ _; have H10 := Lib.hid (HON9.out.app hCD hBC HF.out.2.2 HF.out.1 hown hgrow); rw [HF.out.2.2]; clear hown hgrow)
          refine (H10.out.left r2 HR2.out).mono ?_
          rintro x w11 ⟨rfl, h11⟩
          have H11 := Lib.hid h11
          clear h11 H10 H4 HON9
          go_wp2_with fail
          refine (H11.out.left r2 HR2.out).mono ?_
          rintro x w12 ⟨rfl, h12⟩
          have H12 := Lib.hid h12
          have HL12 := Lib.hid (h12.drew.left r2 HR2.out)
          have cA0 := h12.drew.conv HF.out.2.1 HV.out
          clear h12 H11
          go_wp2_with fail
          go_region_with (first
            | (go_at_call 28; ((with_reducible refine (HL12.out).mono ?_); rintro x w13 ⟨rfl, h13⟩; have H13 := Lib.hid h13; have cA1 := h13.conv HF.out.2.1 HV.out; have cB1 := h13.conv2 HF.out.2.1 HV.out; clear h13)))
          all_goals
            have HFN := Lib.hid (And.intro H13.out HF.out.2.1)
            clear cA0 cA1 cB1 H12 HL12 H13 HF HSZ HLC HV HR2
            go_wp2
            go_roundw
            case rel => exact ⟨t + 1, k2, by go_num, ht1, ht2, HFN.out.2, ⟨_, _, rfl⟩, HFN.out.1⟩
            case measure => simp [intOf]; omega
        · have hkk := HFK.out.2.1 hz
          have z1 : (qe == 0) = false := by rw [beq_eq_false_iff_ne]; exact hz
          have HLF := Lib.hid (HON7.out.left hd (by rw [hkk]; exact HHD.out))
          clear hkk HFK HER HOU7 HON7
          go_wp2_with fail
          refine (HLF.out).mono ?_
          rintro x w9 ⟨rfl, h9⟩
          have H9 := Lib.hid (And.intro h9.2.2.2.1 (Nat.le_trans (Nat.le_trans hBC (Nat.le_of_lt hCD)) h9.2.2.2.2))
          clear h9 HLF
          go_wp2_with fail
          refine (plives_any _).mono ?_
          rintro x w10 ⟨rfl, hb10⟩
          have hfin : Below B w w10 := H9.out.1.trans (hb10.mono H9.out.2)
          clear hb10
          go_wp2
          go_ret
          exact ⟨rfl, hfin⟩
      · have hrd := once_in HE3.out hCO (in_bool HC4.out)
        have hkd := Pk.kd_bool (F.drop k)
        obtain ⟨q, hq⟩ : ∃ q, q = Pk.pBool (F.drop k) := ⟨_, rfl⟩
        rw [Pk.stp_ok, ← hq] at hrd
        rw [← hq] at hkd
        have hfk := hK hkd
        obtain ⟨k2, hk2⟩ : ∃ k2, k2 = k + q.n := ⟨_, rfl⟩
        obtain ⟨qe, hqe⟩ : ∃ qe, qe = q.e := ⟨_, rfl⟩
        obtain ⟨bs, hbs⟩ : ∃ bs, bs = Pk.nBool q.v := ⟨_, rfl⟩
        rw [← hk2, ← hqe] at hrd
        rw [← hk2, ← hqe, ← hbs] at hfk
        have hwr := fun (W : World) (h1 : w3.grownBy W (some C)) (h2 : Cu C 75 W C F k2 qe) (h3 : Ou O (O + 1) W O []) => once_out HE3.out hCD hBC HON3.out h1 h2 (obool_any q.v (by simp) h3)
        simp only [← hbs] at hwr
        obtain ⟨v, hv⟩ : ∃ v, v = q.v := ⟨_, rfl⟩
        rw [← hv] at hrd
        simp only [← hv] at hwr
        have HRD := Lib.hid hrd
        have HWR := Lib.hid hwr
        have HFK := Lib.hid hfk
        clear hrd hwr hfk hv hbs hqe hk2 hq hkd hK hl40 HC4
        go_wp2_with fail
        refine (HRD.out).mono ?_
        rintro x w6 ⟨rfl, hg6, hcu6, hou6⟩
        have H6 := Lib.hid (And.intro hg6 (And.intro hcu6 hou6))
        clear hg6 hcu6 hou6
        skip
        go_wp2_with fail
        refine (HWR.out _ H6.out.1 H6.out.2.1 H6.out.2.2).mono ?_
        rintro x w7 ⟨⟨_, rfl⟩, hon7, hou7⟩
        have HON7 := Lib.hid hon7
        have HOU7 := Lib.hid hou7
        have HER := Lib.hid (in_err hon7.2.1)
        clear hon7 hou7 HRD HWR H6 HON3 HE3 q0 q0a e3
        go_wp2_with fail
        refine (HER.out).mono ?_
        rintro x w8 ⟨rfl, rfl⟩
        by_cases hz : qe = 0
        · subst hz
          obtain ⟨f1, f2, f3, f4⟩ := HFK.out.1 rfl
          have hbl0 := HFK.out.2.2
          have hby := obytes_any (by omega) HOU7.out
          have hlc : (u8s bs).length = bs.length * 1 := by rw [u8s_len, Nat.mul_one]
          have hpp := f3
          obtain ⟨b2, o2, hA2, _⟩ := HON7.out.2.2.1.2.2.1 (by rw [u8s_len, ← HON7.out.2.2.1.1]; omega)
          subst hA2
          have hkc2 : k2 ≤ c2 := Nat.le_trans f2 HON7.out.2.2.1.2.1
          have HBY := Lib.hid hby
          have HF := Lib.hid (And.intro f1 (And.intro f2 f4))
          have HLC := Lib.hid hlc
          have HSZ := Lib.hid (show k + bs.length ≤ maxLen ∧ (k + bs.length) * 1 ≤ 140737488355328 from ⟨by unfold maxLen; omega, by omega⟩)
          obtain ⟨r2, hr2⟩ : ∃ r2, r2 = n - k2 := ⟨_, rfl⟩
          have HR2 := Lib.hid hr2
          obtain ⟨V, hV⟩ : ∃ V : ByteArray, V = ⟨(F.take k2).toArray⟩ := ⟨_, rfl⟩
          have HV := Lib.hid hV
          have hsub : (n : Int) - (r2 : Int) = (k2 : Int) := by omega
          have g1 : ¬ ((r2 : Int) < 0) := by omega
          have g2 : ¬ (n < r2) := by omega
          have q9 : (k2 : Int) ≤ (c2 : Int) := by omega
          have q8 : ¬ c2 = 0 := by omega
          have q7 : IntKind.i64.wrap (k2 : Int) = (k2 : Int) := by rw [IntKind.wrap_i64]; omega
          have q5 : k2 ≤ 40 := by omega
          clear f1 f2 f3 f4 hbl0 hby hlc hr2 hV HFK HER HOU7 hkc2
          go_wp2_with fail
          refine (HBY.out).mono ?_
          intro x w9 hby
          obtain ⟨g4, k4, rfl, ho4, hbe4⟩ := (show Bys w7 w9 x bs from hby).form hpp
          have H4 := Lib.hid (all_step HON7.out.1 (Below.refl D w7) ho4 hbe4 HON7.out.2.2.2.2)
          have HON9 := Lib.hid (HON7.out.more hCD hBC hbe4)
          clear ho4 hbe4 hby HON7 HBY
          go_wp2_with (at_builtin; refine wpList_append_lies w9 rfl _ _ 23 rfl D 5 i0 (.int .u8 0) 1 1 Try.underlying23 HI.out HZ0.out HZ1.out HZ2.out rfl (by decide) (.slice A3 k c3) k _ rfl H4.out.1 ⟨g4, 0, none⟩ bs.length k4 (u8s bs) rfl HLC.out H4.out.2.1 (u8s_one_cell bs) hpp HSZ.out.1 HSZ.out.2 H4.out.2.2.1 _ rfl ?_; intro g5 k5 w10 hown hgrow _ _; have H10 := Lib.hid (HON9.out.app hCD hBC HF.out.2.2 HF.out.1 hown hgrow); rw [HF.out.2.2]; clear hown hgrow)
          refine (H10.out.left r2 HR2.out).mono ?_
          rintro x w11 ⟨rfl, h11⟩
          have H11 := Lib.hid h11
          clear h11 H10 H4 HON9
          go_wp2_with fail
          refine (H11.out.left r2 HR2.out).mono ?_
          rintro x w12 ⟨rfl, h12⟩
          have H12 := Lib.hid h12
          have HL12 := Lib.hid (h12.drew.left r2 HR2.out)
          have cA0 := h12.drew.conv HF.out.2.1 HV.out
          clear h12 H11
          go_wp2_with fail
          go_region_with (first
            | (go_at_call 28; ((with_reducible refine (HL12.out).mono ?_); rintro x w13 ⟨rfl, h13⟩; have H13 := Lib.hid h13; have cA1 := h13.conv HF.out.2.1 HV.out; have cB1 := h13.conv2 HF.out.2.1 HV.out; clear h13)))
          all_goals
            have HFN := Lib.hid (And.intro H13.out HF.out.2.1)
            clear cA0 cA1 cB1 H12 HL12 H13 HF HSZ HLC HV HR2
            go_wp2
            go_roundw
            case rel => exact ⟨t + 1, k2, by go_num, ht1, ht2, HFN.out.2, ⟨_, _, rfl⟩, HFN.out.1⟩
            case measure => simp [intOf]; omega
        · have hkk := HFK.out.2.1 hz
          have z1 : (qe == 0) = false := by rw [beq_eq_false_iff_ne]; exact hz
          have HLF := Lib.hid (HON7.out.left hd (by rw [hkk]; exact HHD.out))
          clear hkk HFK HER HOU7 HON7
          go_wp2_with fail
          refine (HLF.out).mono ?_
          rintro x w9 ⟨rfl, h9⟩
          have H9 := Lib.hid (And.intro h9.2.2.2.1 (Nat.le_trans (Nat.le_trans hBC (Nat.le_of_lt hCD)) h9.2.2.2.2))
          clear h9 HLF
          go_wp2_with fail
          refine (plives_any _).mono ?_
          rintro x w10 ⟨rfl, hb10⟩
          have hfin : Below B w w10 := H9.out.1.trans (hb10.mono H9.out.2)
          clear hb10
          go_wp2
          go_ret
          exact ⟨rfl, hfin⟩
      · have hrd := once_in HE3.out hCO (in_int HC4.out)
        have hkd := Pk.kd_int (F.drop k)
        have hbd := Pk.pint_bounds (F.drop k)
        obtain ⟨q, hq⟩ : ∃ q, q = Pk.pInt (F.drop k) := ⟨_, rfl⟩
        rw [Pk.stp_ok, ← hq] at hrd
        rw [← hq] at hkd hbd
        have hfk := hK hkd
        obtain ⟨k2, hk2⟩ : ∃ k2, k2 = k + q.n := ⟨_, rfl⟩
        obtain ⟨qe, hqe⟩ : ∃ qe, qe = q.e := ⟨_, rfl⟩
        obtain ⟨bs, hbs⟩ : ∃ bs, bs = Pk.nInt q.v := ⟨_, rfl⟩
        rw [← hk2, ← hqe] at hrd
        rw [← hk2, ← hqe, ← hbs] at hfk
        have hwr := fun (W : World) (h1 : w3.grownBy W (some C)) (h2 : Cu C 75 W C F k2 qe) (h3 : Ou O (O + 1) W O []) => once_out HE3.out hCD hBC HON3.out h1 h2 (oint_any q.v hbd.1 hbd.2 (by simp) h3)
        simp only [← hbs] at hwr
        obtain ⟨v, hv⟩ : ∃ v, v = q.v := ⟨_, rfl⟩
        rw [← hv] at hrd
        simp only [← hv] at hwr
        have HRD := Lib.hid hrd
        have HWR := Lib.hid hwr
        have HFK := Lib.hid hfk
        clear hrd hwr hfk hv hbs hqe hk2 hq hkd hK hl40 HC4 hbd
        go_wp2_with fail
        refine (HRD.out).mono ?_
        rintro x w6 ⟨rfl, hg6, hcu6, hou6⟩
        have H6 := Lib.hid (And.intro hg6 (And.intro hcu6 hou6))
        clear hg6 hcu6 hou6
        unfold i64v
        go_wp2_with fail
        refine (HWR.out _ H6.out.1 H6.out.2.1 H6.out.2.2).mono ?_
        rintro x w7 ⟨⟨_, rfl⟩, hon7, hou7⟩
        have HON7 := Lib.hid hon7
        have HOU7 := Lib.hid hou7
        have HER := Lib.hid (in_err hon7.2.1)
        clear hon7 hou7 HRD HWR H6 HON3 HE3 q0 q0a e3
        go_wp2_with fail
        refine (HER.out).mono ?_
        rintro x w8 ⟨rfl, rfl⟩
        by_cases hz : qe = 0
        · subst hz
          obtain ⟨f1, f2, f3, f4⟩ := HFK.out.1 rfl
          have hbl0 := HFK.out.2.2
          have hby := obytes_any (by omega) HOU7.out
          have hlc : (u8s bs).length = bs.length * 1 := by rw [u8s_len, Nat.mul_one]
          have hpp := f3
          obtain ⟨b2, o2, hA2, _⟩ := HON7.out.2.2.1.2.2.1 (by rw [u8s_len, ← HON7.out.2.2.1.1]; omega)
          subst hA2
          have hkc2 : k2 ≤ c2 := Nat.le_trans f2 HON7.out.2.2.1.2.1
          have HBY := Lib.hid hby
          have HF := Lib.hid (And.intro f1 (And.intro f2 f4))
          have HLC := Lib.hid hlc
          have HSZ := Lib.hid (show k + bs.length ≤ maxLen ∧ (k + bs.length) * 1 ≤ 140737488355328 from ⟨by unfold maxLen; omega, by omega⟩)
          obtain ⟨r2, hr2⟩ : ∃ r2, r2 = n - k2 := ⟨_, rfl⟩
          have HR2 := Lib.hid hr2
          obtain ⟨V, hV⟩ : ∃ V : ByteArray, V = ⟨(F.take k2).toArray⟩ := ⟨_, rfl⟩
          have HV := Lib.hid hV
          have hsub : (n : Int) - (r2 : Int) = (k2 : Int) := by omega
          have g1 : ¬ ((r2 : Int) < 0) := by omega
          have g2 : ¬ (n < r2) := by omega
          have q9 : (k2 : Int) ≤ (c2 : Int) := by omega
          have q8 : ¬ c2 = 0 := by omega
          have q7 : IntKind.i64.wrap (k2 : Int) = (k2 : Int) := by rw [IntKind.wrap_i64]; omega
          have q5 : k2 ≤ 40 := by omega
          clear f1 f2 f3 f4 hbl0 hby hlc hr2 hV HFK HER HOU7 hkc2
          go_wp2_with fail
          refine (HBY.out).mono ?_
          intro x w9 hby
          obtain ⟨g4, k4, rfl, ho4, hbe4⟩ := (show Bys w7 w9 x bs from hby).form hpp
          have H4 := Lib.hid (all_step HON7.out.1 (Below.refl D w7) ho4 hbe4 HON7.out.2.2.2.2)
          have HON9 := Lib.hid (HON7.out.more hCD hBC hbe4)
          clear ho4 hbe4 hby HON7 HBY
          go_wp2_with (at_builtin; refine wpList_append_lies w9 rfl _ _ 23 rfl D 5 i0 (.int .u8 0) 1 1 Try.underlying23 HI.out HZ0.out HZ1.out HZ2.out rfl (by decide) (.slice A3 k c3) k _ rfl H4.out.1 ⟨g4, 0, none⟩ bs.length k4 (u8s bs) rfl HLC.out H4.out.2.1 (u8s_one_cell bs) hpp HSZ.out.1 HSZ.out.2 H4.out.2.2.1 _ rfl ?_; intro g5 k5 w10 hown hgrow _ _; have H10 := Lib.hid (HON9.out.app hCD hBC HF.out.2.2 HF.out.1 hown hgrow); rw [HF.out.2.2]; clear hown hgrow)
          refine (H10.out.left r2 HR2.out).mono ?_
          rintro x w11 ⟨rfl, h11⟩
          have H11 := Lib.hid h11
          clear h11 H10 H4 HON9
          go_wp2_with fail
          refine (H11.out.left r2 HR2.out).mono ?_
          rintro x w12 ⟨rfl, h12⟩
          have H12 := Lib.hid h12
          have HL12 := Lib.hid (h12.drew.left r2 HR2.out)
          have cA0 := h12.drew.conv HF.out.2.1 HV.out
          clear h12 H11
          go_wp2_with fail
          go_region_with (first
            | (go_at_call 28; ((with_reducible refine (HL12.out).mono ?_); rintro x w13 ⟨rfl, h13⟩; have H13 := Lib.hid h13; have cA1 := h13.conv HF.out.2.1 HV.out; have cB1 := h13.conv2 HF.out.2.1 HV.out; clear h13)))
          all_goals
            have HFN := Lib.hid (And.intro H13.out HF.out.2.1)
            clear cA0 cA1 cB1 H12 HL12 H13 HF HSZ HLC HV HR2
            go_wp2
            go_roundw
            case rel => exact ⟨t + 1, k2, by go_num, ht1, ht2, HFN.out.2, ⟨_, _, rfl⟩, HFN.out.1⟩
            case measure => simp [intOf]; omega
        · have hkk := HFK.out.2.1 hz
          have z1 : (qe == 0) = false := by rw [beq_eq_false_iff_ne]; exact hz
          have HLF := Lib.hid (HON7.out.left hd (by rw [hkk]; exact HHD.out))
          clear hkk HFK HER HOU7 HON7
          go_wp2_with fail
          refine (HLF.out).mono ?_
          rintro x w9 ⟨rfl, h9⟩
          have H9 := Lib.hid (And.intro h9.2.2.2.1 (Nat.le_trans (Nat.le_trans hBC (Nat.le_of_lt hCD)) h9.2.2.2.2))
          clear h9 HLF
          go_wp2_with fail
          refine (plives_any _).mono ?_
          rintro x w10 ⟨rfl, hb10⟩
          have hfin : Below B w w10 := H9.out.1.trans (hb10.mono H9.out.2)
          clear hb10
          go_wp2
          go_ret
          exact ⟨rfl, hfin⟩
      · have hrd := once_in HE3.out hCO (in_int HC4.out)
        have hkd := Pk.kd_int (F.drop k)
        have hbd := Pk.pint_bounds (F.drop k)
        obtain ⟨q, hq⟩ : ∃ q, q = Pk.pInt (F.drop k) := ⟨_, rfl⟩
        rw [Pk.stp_ok, ← hq] at hrd
        rw [← hq] at hkd hbd
        have hfk := hK hkd
        obtain ⟨k2, hk2⟩ : ∃ k2, k2 = k + q.n := ⟨_, rfl⟩
        obtain ⟨qe, hqe⟩ : ∃ qe, qe = q.e := ⟨_, rfl⟩
        obtain ⟨bs, hbs⟩ : ∃ bs, bs = Pk.nInt q.v := ⟨_, rfl⟩
        rw [← hk2, ← hqe] at hrd
        rw [← hk2, ← hqe, ← hbs] at hfk
        have hwr := fun (W : World) (h1 : w3.grownBy W (some C)) (h2 : Cu C 75 W C F k2 qe) (h3 : Ou O (O + 1) W O []) => once_out HE3.out hCD hBC HON3.out h1 h2 (oint_any q.v hbd.1 hbd.2 (by simp) h3)
        simp only [← hbs] at hwr
        obtain ⟨v, hv⟩ : ∃ v, v = q.v := ⟨_, rfl⟩
        rw [← hv] at hrd
        simp only [← hv] at hwr
        have HRD := Lib.hid hrd
        have HWR := Lib.hid hwr
        have HFK := Lib.hid hfk
        clear hrd hwr hfk hv hbs hqe hk2 hq hkd hK hl40 HC4 hbd
        go_wp2_with fail
        refine (HRD.out).mono ?_
        rintro x w6 ⟨rfl, hg6, hcu6, hou6⟩
        have H6 := Lib.hid (And.intro hg6 (And.intro hcu6 hou6))
        clear hg6 hcu6 hou6
        unfold i64v
        go_wp2_with fail
        refine (HWR.out _ H6.out.1 H6.out.2.1 H6.out.2.2).mono ?_
        rintro x w7 ⟨⟨_, rfl⟩, hon7, hou7⟩
        have HON7 := Lib.hid hon7
        have HOU7 := Lib.hid hou7
        have HER := Lib.hid (in_err hon7.2.1)
        clear hon7 hou7 HRD HWR H6 HON3 HE3 q0 q0a e3
        go_wp2_with fail
        refine (HER.out).mono ?_
        rintro x w8 ⟨rfl, rfl⟩
        by_cases hz : qe = 0
        · subst hz
          obtain ⟨f1, f2, f3, f4⟩ := HFK.out.1 rfl
          have hbl0 := HFK.out.2.2
          have hby := obytes_any (by omega) HOU7.out
          have hlc : (u8s bs).length = bs.length * 1 := by rw [u8s_len, Nat.mul_one]
          have hpp := f3
          obtain ⟨b2, o2, hA2, _⟩ := HON7.out.2.2.1.2.2.1 (by rw [u8s_len, ← HON7.out.2.2.1.1]; omega)
          subst hA2
          have hkc2 : k2 ≤ c2 := Nat.le_trans f2 HON7.out.2.2.1.2.1
          have HBY := Lib.hid hby
          have HF := Lib.hid (And.intro f1 (And.intro f2 f4))
          have HLC := Lib.hid hlc
          have HSZ := Lib.hid (show k + bs.length ≤ maxLen ∧ (k + bs.length) * 1 ≤ 140737488355328 from ⟨by unfold maxLen; omega, by omega⟩)
          obtain ⟨r2, hr2⟩ : ∃ r2, r2 = n - k2 := ⟨_, rfl⟩
          have HR2 := Lib.hid hr2
          obtain ⟨V, hV⟩ : ∃ V : ByteArray, V = ⟨(F.take k2).toArray⟩ := ⟨_, rfl⟩
          have HV := Lib.hid hV
          have hsub : (n : Int) - (r2 : Int) = (k2 : Int) := by omega
          have g1 : ¬ ((r2 : Int) < 0) := by omega
          have g2 : ¬ (n < r2) := by omega
          have q9 : (k2 : Int) ≤ (c2 : Int) := by omega
          have q8 : ¬ c2 = 0 := by omega
          have q7 : IntKind.i64.wrap (k2 : Int) = (k2 : Int) := by rw [IntKind.wrap_i64]; omega
          have q5 : k2 ≤ 40 := by omega
          clear f1 f2 f3 f4 hbl0 hby hlc hr2 hV HFK HER HOU7 hkc2
          go_wp2_with fail
          refine (HBY.out).mono ?_
          intro x w9 hby
          obtain ⟨g4, k4, rfl, ho4, hbe4⟩ := (show Bys w7 w9 x bs from hby).form hpp
          have H4 := Lib.hid (all_step HON7.out.1 (Below.refl D w7) ho4 hbe4 HON7.out.2.2.2.2)
          have HON9 := Lib.hid (HON7.out.more hCD hBC hbe4)
          clear ho4 hbe4 hby HON7 HBY
          go_wp2_with (at_builtin; refine wpList_append_lies w9 rfl _ _ 23 rfl D 5 i0 (.int .u8 0) 1 1 Try.underlying23 HI.out HZ0.out HZ1.out HZ2.out rfl (by decide) (.slice A3 k c3) k _ rfl H4.out.1 ⟨g4, 0, none⟩ bs.length k4 (u8s bs) rfl HLC.out H4.out.2.1 (u8s_one_cell bs) hpp HSZ.out.1 HSZ.out.2 H4.out.2.2.1 _ rfl ?_; intro g5 k5 w10 hown hgrow _ _; have H10 := Lib.hid (HON9.out.app hCD hBC HF.out.2.2 HF.out.1 hown hgrow); rw [HF.out.2.2]; clear hown hgrow)
          refine (H10.out.left r2 HR2.out).mono ?_
          rintro x w11 ⟨rfl, h11⟩
          have H11 := Lib.hid h11
          clear h11 H10 H4 HON9
          go_wp2_with fail
          refine (H11.out.left r2 HR2.out).mono ?_
          rintro x w12 ⟨rfl, h12⟩
          have H12 := Lib.hid h12
          have HL12 := Lib.hid (h12.drew.left r2 HR2.out)
          have cA0 := h12.drew.conv HF.out.2.1 HV.out
          clear h12 H11
          go_wp2_with fail
          go_region_with (first
            | (go_at_call 28; ((with_reducible refine (HL12.out).mono ?_); rintro x w13 ⟨rfl, h13⟩; have H13 := Lib.hid h13; have cA1 := h13.conv HF.out.2.1 HV.out; have cB1 := h13.conv2 HF.out.2.1 HV.out; clear h13)))
          all_goals
            have HFN := Lib.hid (And.intro H13.out HF.out.2.1)
            clear cA0 cA1 cB1 H12 HL12 H13 HF HSZ HLC HV HR2
            go_wp2
            go_roundw
            case rel => exact ⟨t + 1, k2, by go_num, ht1, ht2, HFN.out.2, ⟨_, _, rfl⟩, HFN.out.1⟩
            case measure => simp [intOf]; omega
        · have hkk := HFK.out.2.1 hz
          have z1 : (qe == 0) = false := by rw [beq_eq_false_iff_ne]; exact hz
          have HLF := Lib.hid (HON7.out.left hd (by rw [hkk]; exact HHD.out))
          clear hkk HFK HER HOU7 HON7
          go_wp2_with fail
          refine (HLF.out).mono ?_
          rintro x w9 ⟨rfl, h9⟩
          have H9 := Lib.hid (And.intro h9.2.2.2.1 (Nat.le_trans (Nat.le_trans hBC (Nat.le_of_lt hCD)) h9.2.2.2.2))
          clear h9 HLF
          go_wp2_with fail
          refine (plives_any _).mono ?_
          rintro x w10 ⟨rfl, hb10⟩
          have hfin : Below B w w10 := H9.out.1.trans (hb10.mono H9.out.2)
          clear hb10
          go_wp2
          go_ret
          exact ⟨rfl, hfin⟩
    · have hc2 : ∃ b1 b2 : Bool, decide (t < m1) = b1 ∧ decide ((t : Int) < 12) = b2 ∧ (b1 = false ∨ (b1 = true ∧ b2 = false)) := by
        refine ⟨_, _, rfl, rfl, ?_⟩
        simp only [decide_eq_false_iff_not, decide_eq_true_eq]
        omega
      obtain ⟨b1, b2, B1, B2, hc2⟩ := hc2
      have H9 := Lib.hid (And.intro hon.2.2.2.1 (Nat.le_trans (Nat.le_trans hBC (Nat.le_of_lt hCD)) hon.2.2.2.2))
      clear hc hon
      rcases hc2 with rfl | ⟨rfl, rfl⟩
      all_goals
        go_wp2_with fail
        refine (plives_any _).mono ?_
        rintro e w9 ⟨rfl, hb9⟩
        have hfin : Below B w w9 := H9.out.1.trans (hb9.mono H9.out.2)
        clear hb9
        go_wp2
        go_ret
        exact ⟨rfl, hfin⟩

end Go.Proofs.Ytjpdlnemkhofmaa
