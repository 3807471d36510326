/-
  The references of chapter 2: words of bytes, sums of labels, of bytes, secrets; they answer the same plain functions as package hash; what was there is left as it was.
-/
import Derived.Test.YtdiacpadbndncaaSame
namespace Go.Proofs.Ytdiacpadbndncaa
open Go.RowKit

theorem le_drop (xs : List UInt8) (p b : Nat) (hp : p < b) (hb : b ≤ xs.length) :
    Hsh.le ((xs.drop p).take (b - p)) = (xs[p]'(by omega)).toNat + 256 * Hsh.le ((xs.drop (p + 1)).take (b - (p + 1))) := by
  rw [List.drop_eq_getElem_cons (show p < xs.length by omega), show b - p = (b - (p + 1)) + 1 by omega, List.take_succ_cons]
  rfl
theorem le_part_lt (xs : List UInt8) (p b : Nat) (hpb : b ≤ p + 6) : Hsh.le ((xs.drop p).take (b - p)) < 281474976710656 := by
  have h := Hsh.le_lt ((xs.drop p).take (b - p))
  have h2 : (256 : Nat) ^ ((xs.drop p).take (b - p)).length ≤ 256 ^ 6 := Nat.pow_le_pow_right (by omega) (by rw [List.length_take]; omega)
  have h3 : (256 : Nat) ^ 6 = 281474976710656 := by decide
  omega

set_option maxRecDepth 100000 in
set_option maxHeartbeats 2000000 in
theorem rwords_any (xs : List UInt8) (A : Option Addr) (m c : Nat) (w : World) (hm : m = xs.length) (hs : m ≤ 1000000) (hA : Rd w.heap.size w A (u8s xs)) :
    Calls Try.prog 54 #[.slice A m c] w fun e w' => ∃ A' c', e = .returned (.slice A' (Hsh.sevens m) c') ∧
      w'.ownsRow w.heap.size 22 1 (.slice A' (Hsh.sevens m) c') (Hsh.sevens m) (u64s (Hsh.words xs)) ∧ Below w.heap.size w w' := by
  obtain ⟨i0, hi, hz0, hz1, hz2⟩ := info_parts info_u64
  obtain ⟨B, hB⟩ : ∃ B, B = w.heap.size := ⟨_, rfl⟩
  rw [← hB] at hA ⊢
  have hnil := World.ownsRow_nil w B 22 1
  have hbel0 : Below B w w := Below.refl _ _
  have HBS := Lib.hid hB
  have HM := Lib.hid hm
  have HA := Lib.hid hA
  have HNIL := Lib.hid hnil
  have HI := Lib.hid hi
  have HZ0 := Lib.hid hz0
  have HZ1 := Lib.hid hz1
  have HZ2 := Lib.hid hz2
  clear hB hm hA hnil hi hz0 hz1 hz2
  go_enter Try.func54, Try.ntmps54
  go_wp2
  go_loopw [3, 4, 5, 6] (fun o i _ _ wr => ∃ a k : Nat, i = .int .i64 a ∧ a = 7 * k ∧ k ≤ Hsh.sevens m ∧ (∃ A' c', o = .slice A' k c') ∧ wr.ownsRow B 22 1 o k (u64s (Hsh.upto xs k)) ∧ Below B w wr) (fun _ i _ _ _ => m + 7 - (intOf i).toNat)
  case atStart => exact ⟨0, 0, rfl, rfl, Nat.zero_le _, ⟨_, _, rfl⟩, HNIL.out, hbel0⟩
  case round =>
    obtain ⟨a, k, rfl, ha, hk, ⟨A1, c1, rfl⟩, hrow, hbel⟩ := hrel
    unfold Hsh.sevens at hk
    have HROW := Lib.hid hrow
    have HAK := Lib.hid ha
    have hk2 : k ≤ 142860 := by omega
    clear hrow
    by_cases hlt : a < m
    · obtain ⟨d, hd⟩ : ∃ d : Nat, d = a + 7 := ⟨_, rfl⟩
      obtain ⟨b, hb⟩ : ∃ b : Nat, b = min (7 * k + 7) xs.length := ⟨_, rfl⟩
      have hbm : b = min m (a + 7) := by have := HM.out; omega
      have hif : (if (a : Int) + 7 < (m : Int) then (a : Int) + 7 else (m : Int)) = (b : Int) := by split <;> omega
      have hword := word_take xs k b hb
      rw [← ha] at hword
      have hbx : b ≤ xs.length := by omega
      have hab : a < b := by omega
      have hb7 : b ≤ a + 7 := by omega
      obtain ⟨wo, hwo⟩ : ∃ wo : World, wo = wr := ⟨_, rfl⟩
      subst hwo
      have HW := Lib.hid hword
      clear ha hd hb hbm hword
      go_wp2
      have hmx : xs.length ≤ 1000000 := by rw [← HM.out]; exact hs
      go_loop [5, 6] (fun v i => ∃ p : Nat, a ≤ p ∧ p ≤ b ∧ i = .int .i64 ((p : Int) - 1) ∧ v = .int .u64 (Hsh.le ((xs.drop p).take (b - p)) : Nat)) (fun _ i => (intOf i + 1).toNat)
      case atStart => exact ⟨b, by omega, Nat.le_refl _, rfl, by rw [Nat.sub_self, List.take_zero]; rfl⟩
      case round =>
        obtain ⟨p, hap, hpb, rfl, rfl⟩ := hrel
        by_cases hpa : a < p
        · obtain ⟨p1, rfl⟩ : ∃ p1, p = p1 + 1 := ⟨p - 1, by omega⟩
          have hp1 : (((p1 + 1 : Nat) : Int) - 1) = (p1 : Int) := by omega
          have hge : decide ((a : Int) ≤ (p1 : Int)) = true := decide_eq_true (by omega)
          have hpx : p1 < xs.length := by omega
          obtain ⟨g, off, rfl, hg, hcl⟩ := byte_cell HA.out hpx
          have hcw := (hbel.cell (p := ⟨g, off + p1, none⟩) hg).trans hcl
          have hled := le_drop xs p1 b (by omega) hbx
          have hlt2 := le_part_lt xs (p1 + 1) b (by omega)
          have hy := (xs[p1]).toNat_lt
          obtain ⟨y, hye⟩ : ∃ y : Nat, y = (xs[p1]).toNat := ⟨_, rfl⟩
          obtain ⟨z, hz⟩ : ∃ z : Nat, z = Hsh.le ((xs.drop (p1 + 1)).take (b - (p1 + 1))) := ⟨_, rfl⟩
          rw [← hye] at hcw hled hy
          rw [← hz] at hlt2 hled ⊢
          rw [hp1]
          have HLE := Lib.hid hled
          clear hcl hled hye hz hpx hp1
          go_wp2
          go_round
          case rel => exact ⟨p1, by omega, by omega, rfl, by rw [HLE.out]; go_num⟩
          case measure => simp [intOf]
        · obtain rfl : a = p := by omega
          obtain ⟨x, hx⟩ : ∃ x : Nat, x = Hsh.le ((xs.drop a).take (b - a)) := ⟨_, rfl⟩
          rw [← hx]
          have hxw : x = Hsh.word xs k := by rw [hx]; exact HW.out
          have hge : decide ((a : Int) ≤ (a : Int) - 1) = false := decide_eq_false (by omega)
          have hsz := hbel.size
          have hBw : B ≤ wo.heap.size := by have := HBS.out; omega
          have HX := Lib.hid hxw
          clear hx hxw
          go_wp2_with (at_builtin; refine wpList_append_own _ rfl _ _ 26 rfl B 22 i0 (.int .u64 0) 1 8 Try.underlying26 HI.out HZ0.out HZ1.out HZ2.out rfl (by decide) _ _ _ rfl (HROW.out.alloc _) ⟨wo.heap.size, 0, none⟩ 1 1 [.int .u64 (x : Int)] rfl rfl (cell_one_new _ _ _) (by simp [Value.oneCell']) (by unfold maxLen; omega) (by omega) (by simp; omega) ?_; intro v' w1 hown' hgrow _; obtain ⟨g', cap', rfl⟩ := ownsRow_succ hown'; have HO := Lib.hid hown'; clear hown')
          go_roundw
          case rel =>
            refine ⟨a + 7, k + 1, by go_num, by have := HAK.out; omega, by have := HAK.out; unfold Hsh.sevens; omega, ⟨_, _, rfl⟩, ?_, ?_⟩
            · have h := HO.out
              rw [HX.out, ← u64s_snoc, ← Hsh.upto_succ] at h
              exact h
            · have hg2 : (wo.alloc (.cells #[.int .u64 (x : Int)] 22)).grownBy w1 (Value.slice A1 k c1).ownBlock := hgrow
              exact hbel.trans (((Below.refl B wo).alloc hBw _).grown hg2 (by simp; omega) (fun j e => (HROW.out.lt j e).1))
          case measure => simp [intOf]; omega
    · have e : k = Hsh.sevens m := by unfold Hsh.sevens; omega
      have hup : Hsh.upto xs k = Hsh.words xs := by rw [e]; unfold Hsh.words; rw [HM.out]
      have hr := HROW.out
      rw [hup] at hr
      have HR := Lib.hid hr
      have HE := Lib.hid e
      clear hr hup ha hk e
      go_wp2
      go_ret
      exact ⟨A1, c1, by rw [← HE.out]; rfl, by rw [← HE.out]; exact HR.out, hbel⟩

theorem quiet_any {P : Program} {f : FuncId} {args : Array Value} {w : World} {n : Nat} {v : Value} (h : ∀ W : World, Calls P f args W fun e w' => e = .returned v ∧ ∃ m, w' = W.drewN m) :
    Calls P f args (w.drewN n) fun e w'' => e = .returned v ∧ ∃ m, w'' = w.drewN m :=
  (h _).mono fun _ _ ⟨he, m, hm⟩ => ⟨he, n + m, by rw [hm, World.drewN_drewN]⟩
theorem quiet_same {P : Program} {f : FuncId} {args : Array Value} {v : Value} (h : ∀ W : World, Calls P f args W fun e w' => e = .returned v ∧ W = w') (W : World) : Calls P f args W fun e w' => e = .returned v ∧ ∃ m, w' = W.drewN m :=
  (h W).mono fun _ _ ⟨he, hw⟩ => ⟨he, 0, hw ▸ rfl⟩

theorem cell_block {W : World} {B t : Nat} {cs : Array Value} {fr : Nat × Nat} (h : W.heap[B]? = some (.cells cs t fr)) (i : Nat) : W.cell? ⟨B, i, none⟩ = cs[i]? := by simp [World.cell?, h]
theorem label_bytes (s : ByteArray) (w : World) : ∃ (cap : Nat) (w1 : World), (convert 9 23 (.string s)).run Try.prog w = .ok (.slice (some ⟨w.heap.size, 0, none⟩) s.size cap) w1 ∧
    Rd w1.heap.size w1 (some ⟨w.heap.size, 0, none⟩) (u8s s.data.toList) ∧ Below w.heap.size w w1 := by
  have h := run_bytes_of_string (P := Try.prog) w 9 23 5 s Try.underlying9 Try.underlying23 Try.underlying5
  refine ⟨_, _, h, ?_, (below_to_drew (Below.refl _ w)).alloc (Nat.le_refl _) _⟩
  intro _
  refine ⟨_, 0, rfl, by simp, fun i u hu => ?_⟩
  rw [Nat.zero_add]
  obtain ⟨cap, hcap⟩ : ∃ cap, cap = grownCap w s.size 0 5 := ⟨_, rfl⟩
  rw [← hcap]
  have hi : i < s.data.size := by
    rcases Nat.lt_or_ge i s.data.size with h1 | h1
    · exact h1
    · unfold u8s at hu
      rw [List.getElem?_eq_none (by simpa using h1)] at hu
      cases hu
  have hb := bytesRow_at s cap i hi
  have hcell : (w.drew.alloc (.cells (bytesRow s cap) 5 ((bytesRow s cap).size, (bytesRow s cap).size + 1))).cell? ⟨w.heap.size, i, none⟩ = (bytesRow s cap)[i]? :=
    cell_block (heap_alloc_new w.drew (.cells (bytesRow s cap) 5 ((bytesRow s cap).size, (bytesRow s cap).size + 1))) i
  rw [hcell, hb, ← hu]
  unfold u8s
  rw [List.getElem?_map, List.getElem?_eq_getElem (by simpa using hi)]
  rfl

end Go.Proofs.Ytdiacpadbndncaa
