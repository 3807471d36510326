/-
  slices.Concat of two slices of bytes: the library's own text is walked: one behind the other, in memory of its own; what was there is left as it was. Up to 2^39 bytes each, the second one not empty.
-/
import Derived.Test.YtfbakfdakmndhaaSec
namespace Go.Proofs.Ytfbakfdakmndhaa
open Go.RowKit

theorem src_rd {l : List UInt8} {a : Addr} {B : Nat} {w : World} (h : Rd B w (some a) (u8s l)) : ∀ j u, (u8s l)[j]? = some u → w.cell? (a.add j) = some u := by
  intro j u hu
  have hl : 0 < (u8s l).length := by
    cases hx : u8s l with
    | nil => rw [hx] at hu; cases hu
    | cons x y => simp
  obtain ⟨b, off, e, _, hc⟩ := h hl
  injection e with e
  subst e
  rw [Addr.add_lit]
  exact hc j u hu
theorem u8s_one (l : List UInt8) : ∀ u ∈ u8s l, u.oneCell' = true := by
  intro u hu
  obtain ⟨x, _, rfl⟩ := List.mem_map.1 hu
  rfl
theorem u8s_app (l l' : List UInt8) : u8s (l ++ l') = u8s l ++ u8s l' := by simp [u8s]

set_option maxRecDepth 100000 in
set_option maxHeartbeats 4000000 in
theorem concat_any (l l' : List UInt8) (a a' : Addr) (S n c n' c' : Nat) (w : World) (hn : n = l.length) (hn' : n' = l'.length) (hb : n ≤ 549755813888) (hb' : n' ≤ 549755813888) (h0 : 0 < n')
    (hS : Blk w S 23 #[.slice (some a) n c, .slice (some a') n' c']) (hA : Rd w.heap.size w (some a) (u8s l)) (hA' : Rd w.heap.size w (some a') (u8s l')) :
    Calls Try.prog 21 #[.slice (some ⟨S, 0, none⟩) 2 2] w fun e w' => ∃ g cap, e = .returned (.slice (some ⟨g, 0, none⟩) (n + n') cap) ∧
      w'.ownsRow w.heap.size 5 1 (.slice (some ⟨g, 0, none⟩) (n + n') cap) (n + n') (u8s (l ++ l')) ∧ Below w.heap.size w w' := by
  obtain ⟨i0, hi, hz0, hz1, hz2⟩ := info_parts info_u8
  obtain ⟨t, ht⟩ : ∃ t : Nat, t = n + n' := ⟨_, rfl⟩
  have hti : (n : Int) + (n' : Int) = (t : Int) := by omega
  have ht0 : 0 < t := by omega
  have htb : t ≤ 1099511627776 := by omega
  have hla : (u8s l).length = n * 1 := by rw [u8s_len]; omega
  have hlb : (u8s l').length = n' * 1 := by rw [u8s_len]; omega
  rw [u8s_app, ← ht]
  have HI := Lib.hid hi
  have HZ1 := Lib.hid hz1
  have HT := Lib.hid ht
  have HS := Lib.hid hS
  have HA := Lib.hid hA
  have HA' := Lib.hid hA'
  have HLA := Lib.hid hla
  have HLB := Lib.hid hlb
  have hbel : Below w.heap.size w w := Below.refl _ _
  clear hi hz0 hz1 hz2 ht hS hA hA' hn hn' hla hlb
  go_enter Try.func21, Try.ntmps21
  go_wp2
  go_loopw [3, 11] (fun v i wr => ∃ k s : Nat, k ≤ 2 ∧ v = .int .i64 (s : Int) ∧ i = .int .i64 (k : Int) ∧ (k = 0 → s = 0) ∧ (k = 1 → s = n) ∧ (k = 2 → s = t) ∧ Below w.heap.size w wr) (fun _ i _ => 2 - (intOf i).toNat)
  case atStart => exact ⟨0, 0, by omega, rfl, rfl, fun _ => rfl, by omega, by omega, hbel⟩
  case round =>
    obtain ⟨k, s, hk, rfl, rfl, h1, h2, h3, hbr⟩ := hrel
    have hk3 : k = 0 ∨ k = 1 ∨ k = 2 := by omega
    rcases hk3 with rfl | rfl | rfl
    · have e := h1 rfl
      subst e
      have hc := (HS.out.below hbr HS.out.lt).cell 0
      clear h1 h2 h3 hk
      go_wp2
      go_roundw
      case rel => exact ⟨1, n, by omega, by go_num, by go_num, by omega, fun _ => rfl, by omega, hbr⟩
      case measure => simp [intOf]
    · have e := h2 rfl
      subst e
      have hc := (HS.out.below hbr HS.out.lt).cell 1
      clear h1 h2 h3 hk
      go_wp2
      go_roundw
      case rel => exact ⟨2, t, by omega, by go_num, by go_num, by omega, by omega, fun _ => rfl, hbr⟩
      case measure => simp [intOf]
    · have e := h3 rfl
      subst e
      clear h1 h2 h3 hk
      go_wp2_with fail
      refine (grow_any s wr ht0 htb).mono ?_
      rintro e w1 ⟨cap, rfl, hcap, hown, hb1⟩
      have hk1 := hbel.trans (hbr.trans (hb1.mono hbr.size))
      have hown1 : w1.ownsRow w.heap.size 5 1 (.slice (some ⟨wr.heap.size, 0, none⟩) 0 cap) 0 [] := by
        refine ⟨hown.1, ?_⟩
        rcases hown.2 with h | ⟨g, cp, cur, e1, e2, e3⟩
        · exact .inl h
        · exact .inr ⟨g, cp, cur, e1, Nat.le_trans hbr.size e2, e3⟩
      obtain ⟨G, hG⟩ : ∃ G, G = wr.heap.size := ⟨_, rfl⟩
      rw [← hG] at hown1 ⊢
      have HW := Lib.hid hown1
      have HK1 := Lib.hid hk1
      clear hown hown1 hb1 hbr hG hk1
      go_wp2
      go_loopw [6, 27] (fun v i w2 => ∃ k m : Nat, k ≤ 2 ∧ v = .slice (some ⟨G, 0, none⟩) m cap ∧ i = .int .i64 (k : Int) ∧ (k = 0 → m = 0 ∧ w2.ownsRow w.heap.size 5 1 (.slice (some ⟨G, 0, none⟩) m cap) m []) ∧ (k = 1 → m = n ∧ w2.ownsRow w.heap.size 5 1 (.slice (some ⟨G, 0, none⟩) m cap) m (u8s l)) ∧ (k = 2 → m = s ∧ w2.ownsRow w.heap.size 5 1 (.slice (some ⟨G, 0, none⟩) m cap) m (u8s l ++ u8s l')) ∧ Below w.heap.size w w2) (fun _ i _ => 2 - (intOf i).toNat)
      case atStart => exact ⟨0, 0, by omega, rfl, rfl, fun _ => ⟨rfl, HW.out⟩, by omega, by omega, HK1.out⟩
      case round =>
        rename_i w2
        obtain ⟨k, m, hk, rfl, rfl, h1, h2, h3, hbr⟩ := hrel
        have hk3 : k = 0 ∨ k = 1 ∨ k = 2 := by omega
        rcases hk3 with rfl | rfl | rfl
        · obtain ⟨e, hr⟩ := h1 rfl
          have hc := (HS.out.below hbr HS.out.lt).cell 0
          have hmn : m + n = n := by omega
          have hroom : m + n ≤ cap := by have := HT.out; omega
          have HR := Lib.hid hr
          have HMN := Lib.hid hmn
          clear h1 h2 h3 hk e hr hmn
          go_wp2_with (at_builtin; refine wpList_append_fits _ rfl _ _ 23 rfl w.heap.size 5 i0 1 Try.underlying23 HI.out HZ1.out G m cap [] rfl HR.out a n c (u8s l) rfl HLA.out (src_rd (HA.out.below hbr)) (u8s_one l) hroom ?_; intro w3 hown3 hgr3; have HO3 := Lib.hid hown3; clear hown3)
          go_roundw
          case rel => exact ⟨1, m + n, by omega, rfl, by go_num, by omega, fun _ => ⟨HMN.out, HO3.out⟩, by omega, hbr.grown hgr3 hbr.size (fun j e => by injection e with e; subst e; exact (HR.out.lt _ rfl).1)⟩
          case measure => simp [intOf]
        · obtain ⟨e, hr⟩ := h2 rfl
          have hc := (HS.out.below hbr HS.out.lt).cell 1
          have hmn : m + n' = s := by have := HT.out; omega
          have hroom : m + n' ≤ cap := by omega
          have HR := Lib.hid hr
          have HMN := Lib.hid hmn
          clear h1 h2 h3 hk e hr hmn
          go_wp2_with (at_builtin; refine wpList_append_fits _ rfl _ _ 23 rfl w.heap.size 5 i0 1 Try.underlying23 HI.out HZ1.out G m cap (u8s l) rfl HR.out a' n' c' (u8s l') rfl HLB.out (src_rd (HA'.out.below hbr)) (u8s_one l') hroom ?_; intro w3 hown3 hgr3; have HO3 := Lib.hid hown3; clear hown3)
          go_roundw
          case rel => exact ⟨2, m + n', by omega, rfl, by go_num, by omega, by omega, fun _ => ⟨HMN.out, HO3.out⟩, hbr.grown hgr3 hbr.size (fun j e => by injection e with e; subst e; exact (HR.out.lt _ rfl).1)⟩
          case measure => simp [intOf]
        · obtain ⟨e, hr⟩ := h3 rfl
          subst e
          have HR := Lib.hid hr
          clear h1 h2 h3 hk hr
          go_wp2
          go_ret
          exact ⟨G, cap, rfl, HR.out, hbr⟩

end Go.Proofs.Ytfbakfdakmndhaa
