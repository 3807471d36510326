/-
  Records that came in, in memory; what all of them write, by the chapter's answer. For up to twenty records.
-/
import Derived.Test.YtjpdlnemkhofmaaLpt
namespace Go.Proofs.Ytjpdlnemkhofmaa
open Go.RowKit
attribute [local go_sem ↓] Go.wp_at_zero Go.wp_at_succ

namespace Pk
theorem nBool_len (b : Bool) : (nBool b).length ≤ 10 := by cases b <;> exact nInt_len _ (by omega) (by omega)
theorem nText_len (s : List UInt8) (h : s.length ≤ 1000) : (nText s).length ≤ 10 + s.length := by
  have := nInt_len (s.length : Nat) (by omega) (by omega)
  unfold nText
  rw [List.length_append]
  omega
theorem put_len (o : Od) (ho : o.ok) : (put o).length ≤ 50 := by
  obtain ⟨_, _, h1, h2⟩ := ho
  unfold put
  split
  · exact Nat.le_trans (num_len10 _ (u64_lt _)) (by omega)
  · split
    · have hb := nm_bounds o.n h1 h2
      have e1 := nInt_len (nm o.n).a hb.1 hb.2.1
      have e2 := nInt_len (nm o.n).b h1 h2
      have e3 := num_len10 (nm o.n).c hb.2.2
      unfold nName
      rw [List.length_append, List.length_append]
      omega
    · split
      · have := aro_lt o.n (k := 21) (by omega)
        exact Nat.le_trans (nInt_len _ (by omega) (by omega)) (by omega)
      · split
        · have := nText_len (o.s.data.toList.take 40) (by rw [List.length_take]; omega)
          rw [List.length_take] at this
          omega
        · split
          · exact Nat.le_trans (nBool_len _) (by omega)
          · exact Nat.le_trans (nInt_len _ h1 h2) (by omega)
theorem put_pos (o : Od) : 0 < (put o).length := by
  unfold put
  split
  · exact num_pos _
  · split
    · unfold nName; rw [List.length_append, List.length_append]; have := nInt_pos (nm o.n).a; omega
    · split
      · exact nInt_pos _
      · split
        · unfold nText; rw [List.length_append]; have := nInt_pos ((o.s.data.toList.take 40).length : Nat); omega
        · split
          · exact nInt_pos _
          · exact nInt_pos _
/-- What some records write. -/
def all (l : List Od) : List UInt8 := l.flatMap put
theorem all_snoc (l : List Od) (o : Od) : all (l ++ [o]) = all l ++ put o := by unfold all; rw [List.flatMap_append]; simp
theorem all_len (l : List Od) (h : ∀ o ∈ l, o.ok) : (all l).length ≤ 50 * l.length := by
  induction l with
  | nil => exact Nat.le_refl _
  | cons o l ih =>
    have h1 := put_len o (h o (List.mem_cons_self ..))
    have h2 := ih fun x hx => h x (List.mem_cons_of_mem _ hx)
    unfold all at h2 ⊢
    rw [List.flatMap_cons, List.length_append, List.length_cons]
    omega
theorem take_snoc {α : Type} (l : List α) (k : Nat) (h : k < l.length) : l.take (k + 1) = l.take k ++ [l[k]] := List.take_succ_eq_append_getElem h
end Pk

/-- Records lie at A, below block B. -/
def Ods (B : Nat) (w : World) (A : Option Addr) (os : List Pk.Od) : Prop :=
  0 < os.length → ∃ b off, A = some ⟨b, off, none⟩ ∧ b < B ∧ ∀ i o, os[i]? = some o → w.cell? ⟨b, off + i * 3, none⟩ = some (.int .i64 o.d) ∧ w.cell? ⟨b, off + i * 3 + 1, none⟩ = some (.int .i64 o.n) ∧ w.cell? ⟨b, off + i * 3 + 2, none⟩ = some (.string o.s)
theorem Ods.below {B : Nat} {w w' : World} {A : Option Addr} {os : List Pk.Od} (h : Ods B w A os) (hb : Below B w w') : Ods B w' A os := fun hp => by
  obtain ⟨b, off, e, hlt, hc⟩ := h hp
  exact ⟨b, off, e, hlt, fun i o ho => ⟨(hb.cell (p := ⟨b, off + i * 3, none⟩) hlt).trans (hc i o ho).1, (hb.cell (p := ⟨b, off + i * 3 + 1, none⟩) hlt).trans (hc i o ho).2.1, (hb.cell (p := ⟨b, off + i * 3 + 2, none⟩) hlt).trans (hc i o ho).2.2⟩⟩
theorem Ods.more {B B' : Nat} {w : World} {A : Option Addr} {os : List Pk.Od} (h : Ods B w A os) (hB : B ≤ B') : Ods B' w A os := fun hp => by
  obtain ⟨b, off, e, hlt, hc⟩ := h hp
  exact ⟨b, off, e, by omega, hc⟩
theorem Ods.at_ {B : Nat} {w : World} {A : Option Addr} {os : List Pk.Od} (h : Ods B w A os) {k : Nat} (hk : k < os.length) : ∃ b off, A = some ⟨b, off, none⟩ ∧ b < B ∧ w.cell? ⟨b, off + k * 3, none⟩ = some (.int .i64 os[k].d) ∧ w.cell? ⟨b, off + k * 3 + 1, none⟩ = some (.int .i64 os[k].n) ∧ w.cell? ⟨b, off + k * 3 + 2, none⟩ = some (.string os[k].s) := by
  obtain ⟨b, off, e, hlt, hc⟩ := h (by omega)
  exact ⟨b, off, e, hlt, hc k _ (List.getElem?_eq_getElem hk)⟩

theorem all_step {B n2 g2 k2 n1 : Nat} {v : Value} {xs : List Value} {l2 : List UInt8} {w w1 w2 : World} (ho1 : w1.ownsRow B 5 1 v n1 xs) (hb1 : Below B w w1) (ho2 : w2.ownsRow w1.heap.size 5 1 (.slice (some ⟨g2, 0, none⟩) n2 k2) n2 (u8s l2)) (hbe2 : Below w1.heap.size w1 w2) (hB : B ≤ w1.heap.size) :
    w2.ownsRow B 5 1 v n1 xs ∧ (∀ j u, (u8s l2)[j]? = some u → w2.cell? ((⟨g2, 0, none⟩ : Addr).add j) = some u) ∧ B ≤ w2.heap.size ∧ Below B w w2 :=
  ⟨own_below ho1 hbe2, own_src ho2, Nat.le_trans hB hbe2.size, hb1.trans (hbe2.mono hB)⟩

set_option maxRecDepth 100000 in
set_option maxHeartbeats 1000000 in
theorem rall_any (os : List Pk.Od) (A : Option Addr) (m c most : Nat) (w : World) (hm : m = os.length) (hmb : m ≤ 9223372036854775807) (hmost : most ≤ 20) (hok : ∀ o ∈ os, o.ok) (hA : Ods w.heap.size w A os) :
    Calls Try.prog 14 #[.slice A m c, .int .i64 (most : Int)] w fun e w' => Bys w w' e (Pk.all (os.take most)) := by
  obtain ⟨i0, hi0, hz0, hz1, hz2⟩ := info_parts info_u8
  obtain ⟨B, hBe⟩ : ∃ B, B = w.heap.size := ⟨_, rfl⟩
  unfold Bys
  rw [← hBe] at hA ⊢
  have hnil := World.ownsRow_nil w B 5 1
  have HBS := Lib.hid hBe
  have HI := Lib.hid hi0
  have HZ0 := Lib.hid hz0
  have HZ1 := Lib.hid hz1
  have HZ2 := Lib.hid hz2
  have HNIL := Lib.hid hnil
  have HM := Lib.hid hm
  have HA := Lib.hid hA
  have HOK := Lib.hid hok
  clear hi0 hz0 hz1 hz2 hnil hBe hm hA hok
  go_enter Try.func14, Try.ntmps14
  go_wp2
  go_loopw [5, 6] (fun o i wr => ∃ (k n : Nat), i = .int .i64 k ∧ k ≤ m ∧ k ≤ most ∧ n = (Pk.all (os.take k)).length ∧ (∃ A' c', o = .slice A' n c') ∧ wr.ownsRow B 5 1 o n (u8s (Pk.all (os.take k))) ∧ Below B w wr) (fun _ i _ => m - (intOf i).toNat)
  case atStart => exact ⟨0, 0, rfl, Nat.zero_le _, Nat.zero_le _, rfl, ⟨_, _, rfl⟩, HNIL.out, Below.refl _ _⟩
  case round =>
    obtain ⟨k, n, rfl, hk, hk2, hn, ⟨A1, c1, rfl⟩, hrow, hb⟩ := hrel
    have hsz := hb.size
    have hBw : B ≤ wr.heap.size := by have := HBS.out; omega
    by_cases hc : k < m ∧ k < most
    · obtain ⟨h1, h2⟩ := hc
      have hkl : k < os.length := by rw [← HM.out]; exact h1
      obtain ⟨b, off, hAe, hbB, q0, q1, q2⟩ := HA.out.at_ hkl
      subst hAe
      have hok := HOK.out os[k] (List.getElem_mem hkl)
      have hnb : n ≤ 1000 := by
        have := Pk.all_len (os.take k) fun o ho => HOK.out o (List.mem_of_mem_take ho)
        rw [List.length_take] at this
        omega
      have hpb := Pk.put_len os[k] hok
      have hpp := Pk.put_pos os[k]
      have hsn : Pk.all (os.take (k + 1)) = Pk.all (os.take k) ++ Pk.put os[k] := by rw [Pk.take_snoc os k hkl, Pk.all_snoc]
      have r0 := (hb.cell (p := ⟨b, off + k * 3, none⟩) hbB).trans q0
      have r1 := (hb.cell (p := ⟨b, off + k * 3 + 1, none⟩) hbB).trans q1
      have r2 := (hb.cell (p := ⟨b, off + k * 3 + 2, none⟩) hbB).trans q2
      obtain ⟨o, ho⟩ : ∃ o, o = os[k] := ⟨_, rfl⟩
      rw [← ho] at r0 r1 r2 hok hpb hpp hsn
      have HP := Lib.hid (fun W : World => rput_any o hok W)
      obtain ⟨pl, hpl⟩ : ∃ pl, pl = Pk.put o := ⟨_, rfl⟩
      rw [← hpl] at hpb hpp hsn HP
      obtain ⟨d, n', s⟩ := o
      have HSN := Lib.hid hsn
      have HN := Lib.hid hn
      have HROW := Lib.hid hrow
      have HBEL := Lib.hid hb
      clear q0 q1 q2 ho hok hpl hsn hn hrow hb hsz
      unfold Pk.odv at HP
      go_wp2_with fail
      refine (HP.out _).mono ?_
      intro e w2 hby
      obtain ⟨g4, k4, rfl, ho4, hbe4⟩ := hby.form hpp
      have H4 := Lib.hid (all_step HROW.out HBEL.out ho4 hbe4 hBw)
      have HLC := Lib.hid (show (u8s pl).length = pl.length * 1 by rw [u8s_len, Nat.mul_one])
      have HSZ := Lib.hid (show n + pl.length ≤ maxLen ∧ (n + pl.length) * 1 ≤ 140737488355328 from ⟨by unfold maxLen; omega, by omega⟩)
      clear ho4 hbe4 hby HROW HBEL HP r0 r1 r2
      go_wp2_with (at_builtin; refine wpList_append_lies w2 rfl _ _ 23 rfl B 5 i0 (.int .u8 0) 1 1 Try.underlying23 HI.out HZ0.out HZ1.out HZ2.out rfl (by decide) (.slice A1 n c1) n _ rfl H4.out.1 ⟨g4, 0, none⟩ pl.length k4 (u8s pl) rfl HLC.out H4.out.2.1 (u8s_one_cell pl) hpp HSZ.out.1 HSZ.out.2 H4.out.2.2.1 _ rfl ?_; intro g5 k5 w5 hown hgrow _ _; have H5 := Lib.hid (And.intro hown (H4.out.2.2.2.grown hgrow H4.out.2.2.1 (fun j e => (H4.out.1.lt j e).1))); clear hown hgrow)
      go_roundw
      case rel =>
        refine ⟨k + 1, n + pl.length, by go_num, h1, h2, ?_, ⟨_, _, rfl⟩, ?_, H5.out.2⟩
        · rw [HSN.out, List.length_append, ← HN.out]
        · rw [HSN.out, u8s_app]
          exact H5.out.1
      case measure => simp [intOf]; omega
    · have htk : os.take k = os.take most := by
        rcases Nat.lt_or_ge k most with h1 | h1
        · rw [List.take_of_length_le (by rw [← HM.out]; omega), List.take_of_length_le (by rw [← HM.out]; omega)]
        · rw [show k = most by omega]
      rw [htk] at hn hrow
      have HN := Lib.hid hn
      have HROW := Lib.hid hrow
      have HBEL := Lib.hid hb
      clear htk hn hrow hb hsz
      have hc2 : ∃ b1 b2 : Bool, decide (k < m) = b1 ∧ decide (k < most) = b2 ∧ (b1 = false ∨ (b1 = true ∧ b2 = false)) := by
        refine ⟨_, _, rfl, rfl, ?_⟩
        simp only [decide_eq_false_iff_not, decide_eq_true_eq]
        omega
      obtain ⟨b1, b2, B1, B2, hc2⟩ := hc2
      clear hc
      rcases hc2 with rfl | ⟨rfl, rfl⟩
      all_goals
        go_wp2
        go_ret
        rw [← HN.out]
        exact ⟨_, _, rfl, HROW.out, HBEL.out⟩

end Go.Proofs.Ytjpdlnemkhofmaa
