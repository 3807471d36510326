/-
  Package poly's product and withRoot: the product of two lists, in memory of its own; what was there is left as it was. For lists of numbers of 64 bits, up to a million of them.
-/
import Derived.Test.YtalljoneflepiaaPrb
namespace Go.Proofs.Ytalljoneflepiaa
open Go.RowKit

/-- Numbers of its own, K of them, that say s. -/
def Made (lo K : Nat) (s : Pl) (e : Ending) (w' : World) : Prop :=
  ∃ g L, e = .returned (.slice (some ⟨g, 0, none⟩) K K) ∧ lo ≤ g ∧ Ar w' g L ∧ L.length = K ∧ Pl.Sm L ∧ Pl.co L = s

set_option maxRecDepth 100000 in
set_option maxHeartbeats 1000000 in
theorem product_any (A A2 : Option Addr) (la ca lb cb K : Nat) (a b : List Nat) (w : World) (hn : la = a.length) (hm : lb = b.length) (hab : 0 < la + lb) (hK : K + 1 = la + lb) (hla : la ≤ 1000000) (hlb : lb ≤ 1000000)
    (ha : ∀ y ∈ a, y < 18446744073709551616) (hb : ∀ y ∈ b, y < 18446744073709551616) (hA : Rd w.heap.size w A (u64s a)) (hA2 : Rd w.heap.size w A2 (u64s b)) :
    Calls Try.prog 47 #[.slice A la ca, .slice A2 lb cb] w fun e w' => Made w.heap.size K (Pl.co a * Pl.co b) e w' ∧ Below w.heap.size w w' := by
  have HM := Lib.hid hm
  have HB := Lib.hid hb
  have HA2 := Lib.hid hA2
  have HN := Lib.hid hn
  have HAB := Lib.hid ha
  have HA := Lib.hid hA
  have hmk := mk64 K (by omega)
  have hKi : (la : Int) + (lb : Int) - 1 = (K : Int) := by omega
  have hKb : K ≤ 10000000 := by omega
  have HKK := Lib.hid hK
  have hif : (if 0 < K then (K : Int) else 0) = (K : Int) := by split <;> omega
  clear hm hb hA2 hn ha hA hK
  go_enter Try.func47, Try.ntmps47
  go_wp2_with fail
  have h3 := cell_new_l w (.slice A2 lb cb) 22
  have hgr := ar_new (w.alloc (.cells #[.slice A2 lb cb] 22)) (List.replicate K 0)
  have h5 := cell_new_l ((w.alloc (.cells #[.slice A2 lb cb] 22)).alloc (.cells (u64s (List.replicate K 0)).toArray 23)) (.slice (some ⟨w.heap.size + 1, 0, none⟩) K K) 22
  have h33 := cell_alloc_l (.cells #[.slice (some ⟨w.heap.size + 1, 0, none⟩) K K] 22) (cell_alloc_l (.cells (u64s (List.replicate K 0)).toArray 23) h3.1)
  have hgr3 := blk_alloc hgr (.cells #[.slice (some ⟨w.heap.size + 1, 0, none⟩) K K] 22)
  have hb3 : Below w.heap.size w (((w.alloc (.cells #[.slice A2 lb cb] 22)).alloc (.cells (u64s (List.replicate K 0)).toArray 23)).alloc (.cells #[.slice (some ⟨w.heap.size + 1, 0, none⟩) K K] 22)) :=
    (((Below.refl _ w).alloc (Nat.le_refl _) _).alloc (by simp) _).alloc (by simp; omega) _
  have hsz : (((w.alloc (.cells #[.slice A2 lb cb] 22)).alloc (.cells (u64s (List.replicate K 0)).toArray 23)).alloc (.cells #[.slice (some ⟨w.heap.size + 1, 0, none⟩) K K] 22)).heap.size = w.heap.size + 3 := by simp
  simp only [World.size_alloc] at h5 hgr3
  obtain ⟨w3, hw3⟩ : ∃ w3, w3 = ((w.alloc (.cells #[.slice A2 lb cb] 22)).alloc (.cells (u64s (List.replicate K 0)).toArray 23)).alloc (.cells #[.slice (some ⟨w.heap.size + 1, 0, none⟩) K K] 22) := ⟨_, rfl⟩
  rw [← hw3] at h5 h33 hgr3 hb3 hsz ⊢
  obtain ⟨B, hBe⟩ : ∃ B, B = w.heap.size := ⟨_, rfl⟩
  rw [← hBe] at h5 h33 hgr3 hb3 hsz ⊢
  have hgr4 : Ar w3 (B + 1) (List.replicate K 0) := hgr3
  have HBE := Lib.hid hBe
  have H5 := Lib.hid h5.1
  have H3 := Lib.hid h33
  have HG := Lib.hid hgr4
  have HSZ := Lib.hid hsz
  have hsz2 : B + 3 ≤ w3.heap.size := by omega
  have hA' := Lib.hid (Rd.rq (g := B + 1) (w := w3) ((HA.out.below (by rw [← hBe]; exact hb3)).more (by omega : w.heap.size ≤ B)) (by omega) (by omega))
  have hA2' := Lib.hid (Rd.rq (g := B + 1) (w := w3) ((HA2.out.below (by rw [← hBe]; exact hb3)).more (by omega : w.heap.size ≤ B)) (by omega) (by omega))
  clear hw3 hBe h3 hgr h5 h33 hgr3 hgr4 hsz hmk hif hKi
  refine (foldi_any (B + 1) (B + 1 + 1) B K la ca lb cb (List.replicate K 0) A A2 a b w3 H5.out H3.out (by omega) (by omega) (by omega) (by omega) HG.out (Pl.sm_zeros K) List.length_replicate (Pl.co_zeros K) (fun _ => by have := HKK.out; omega) hKb hla HM.out HB.out hA2'.out HN.out HAB.out hA'.out).mono ?_
  rintro e w4 ⟨⟨r, rfl⟩, ⟨L', hr, hl, hs, hc⟩, hg4⟩
  have h5' := (World.cell?_of_block (a := ⟨B + 1 + 1, 0, none⟩) (hg4.block (B + 1 + 1) (by omega) (fun e => by injection e with e; omega))).trans H5.out
  have HR := Lib.hid hr
  have HS := Lib.hid hs
  have HC := Lib.hid hc
  have HLN := Lib.hid hl
  clear hr hs hc hl
  go_wp2
  go_ret
  refine ⟨⟨B + 1, L', rfl, by have := HBE.out; omega, HR.out, HLN.out, HS.out, HC.out⟩, ?_⟩
  rw [← HBE.out]
  exact hb3.trans (below_only hg4 (by omega) (by omega))

set_option maxRecDepth 100000 in
set_option maxHeartbeats 1000000 in
theorem product_nil (A A2 : Option Addr) (ca cb : Nat) (w : World) :
    Calls Try.prog 47 #[.slice A 0 ca, .slice A2 0 cb] w fun e w' => Made w.heap.size 0 0 e w' ∧ Below w.heap.size w w' := by
  have hmk := mk64 0 (by omega)
  rw [Int.natCast_zero] at hmk
  go_enter Try.func47, Try.ntmps47
  go_wp2_with fail
  have h3 := cell_new_l w (.slice A2 0 cb) 22
  have hgr := ar_new (w.alloc (.cells #[.slice A2 0 cb] 22)) []
  have h5 := cell_new_l ((w.alloc (.cells #[.slice A2 0 cb] 22)).alloc (.cells (u64s []).toArray 23)) (.slice (some ⟨w.heap.size + 1, 0, none⟩) 0 0) 22
  have h33 := cell_alloc_l (.cells #[.slice (some ⟨w.heap.size + 1, 0, none⟩) 0 0] 22) (cell_alloc_l (.cells (u64s []).toArray 23) h3.1)
  have hgr3 := blk_alloc hgr (.cells #[.slice (some ⟨w.heap.size + 1, 0, none⟩) 0 0] 22)
  have hb3 : Below w.heap.size w (((w.alloc (.cells #[.slice A2 0 cb] 22)).alloc (.cells (u64s []).toArray 23)).alloc (.cells #[.slice (some ⟨w.heap.size + 1, 0, none⟩) 0 0] 22)) :=
    (((Below.refl _ w).alloc (Nat.le_refl _) _).alloc (by simp) _).alloc (by simp; omega) _
  have hsz : (((w.alloc (.cells #[.slice A2 0 cb] 22)).alloc (.cells (u64s []).toArray 23)).alloc (.cells #[.slice (some ⟨w.heap.size + 1, 0, none⟩) 0 0] 22)).heap.size = w.heap.size + 3 := by simp
  simp only [World.size_alloc] at h5 hgr3
  obtain ⟨w3, hw3⟩ : ∃ w3, w3 = ((w.alloc (.cells #[.slice A2 0 cb] 22)).alloc (.cells (u64s []).toArray 23)).alloc (.cells #[.slice (some ⟨w.heap.size + 1, 0, none⟩) 0 0] 22) := ⟨_, rfl⟩
  rw [← hw3] at h5 h33 hgr3 hb3 hsz ⊢
  obtain ⟨B, hBe⟩ : ∃ B, B = w.heap.size := ⟨_, rfl⟩
  rw [← hBe] at h5 h33 hgr3 hb3 hsz ⊢
  have hgr4 : Ar w3 (B + 1) [] := hgr3
  have hcall := foldi_any (B + 1) (B + 1 + 1) B 0 0 ca 0 cb [] A A2 [] [] w3 h5.1 h33 (by omega) (by omega) (by omega) (by omega) hgr4 Pl.Sm.nil rfl Pl.co_nil (fun h => absurd h (by omega)) (by omega) (by omega) rfl (by intro y hy; cases hy) (fun h => absurd h (by simp [u64s])) rfl (by intro y hy; cases hy) (fun h => absurd h (by simp [u64s]))
  rw [show ((0 : Nat) : Int) - 1 = -1 from rfl] at hcall
  have HBE := Lib.hid hBe
  have H5 := Lib.hid h5.1
  have hsz2 : B + 3 ≤ w3.heap.size := by omega
  have HC := Lib.hid hcall
  clear hw3 hBe h3 hgr h5 h33 hgr3 hgr4 hsz hmk hcall
  refine HC.out.mono ?_
  rintro e w4 ⟨⟨r, rfl⟩, ⟨L', hr, hl, hs, hc⟩, hg4⟩
  have h5' := (World.cell?_of_block (a := ⟨B + 1 + 1, 0, none⟩) (hg4.block (B + 1 + 1) (by omega) (fun e => by injection e with e; omega))).trans H5.out
  have HR := Lib.hid hr
  have HS := Lib.hid hs
  have HCO := Lib.hid hc
  have HLN := Lib.hid hl
  clear hr hs hc hl
  go_wp2
  go_ret
  refine ⟨⟨B + 1, L', rfl, by have := HBE.out; omega, HR.out, HLN.out, HS.out, by rw [HCO.out, Pl.co_nil, Pl.zero_mul]⟩, ?_⟩
  rw [← HBE.out]
  exact hb3.trans (below_only hg4 (by omega) (by omega))

/-! ### one root more -/
theorem rd_two (w : World) (x y : Nat) : Rd (w.alloc (.cells #[.int .u64 (x : Int), .int .u64 (y : Int)] 23)).heap.size (w.alloc (.cells #[.int .u64 (x : Int), .int .u64 (y : Int)] 23)) (some ⟨w.heap.size, 0, none⟩) (u64s [x, y]) := fun _ =>
  ⟨w.heap.size, 0, rfl, by simp, fun i u hu => by
    rw [Nat.zero_add, (blk_new w 23 #[.int .u64 (x : Int), .int .u64 (y : Int)]).cell i]
    simpa [u64s] using hu⟩
theorem Pl.co_root (r : Nat) : Pl.co [Fld.sub 0 r, 1] = Pl.lin (Fld.to r) := Pl.ext fun n => by
  rw [Pl.co_cons, Pl.co_cons, Pl.co_nil, Pl.sh_zero, Pl.add_zero, Fld.to_subF, Fld.to_one, Fld.to_zero]
  unfold Pl.lin Pl.X
  cases n with
  | zero => simp only [Pl.add_at, Pl.sub_at, Pl.C_0, Pl.sh_0]; grind
  | succ n => simp only [Pl.add_at, Pl.sub_at, Pl.C_s, Pl.sh_s]; grind

set_option maxRecDepth 100000 in
set_option maxHeartbeats 1000000 in
theorem withRoot_any (A : Option Addr) (la ca K r : Nat) (a : List Nat) (w : World) (hn : la = a.length) (hK : K = la + 1) (hla : la ≤ 1000000) (ha : ∀ y ∈ a, y < 18446744073709551616) (hr : r < 18446744073709551616) (hA : Rd w.heap.size w A (u64s a)) :
    Calls Try.prog 58 #[.slice A la ca, .int .u64 (r : Int)] w fun e w' => Made w.heap.size K (Pl.lin (Fld.to r) * Pl.co a) e w' ∧ Below w.heap.size w w' := by
  have hs := Fld.sub_lt 0 r
  have hc := neg_any r w hr
  have hco := Pl.co_root r
  obtain ⟨z, hz⟩ : ∃ z, z = Fld.sub 0 r := ⟨_, rfl⟩
  rw [← hz] at hs hc hco
  have HC := Lib.hid hc
  have HCO := Lib.hid hco
  have HN := Lib.hid hn
  have HK := Lib.hid hK
  have HAB := Lib.hid ha
  have HA := Lib.hid hA
  clear hz hc hco hn hK ha hA
  go_enter Try.func58, Try.ntmps58
  go_wp2_with fail
  refine HC.out.mono ?_
  rintro e w' ⟨rfl, rfl⟩
  go_wp2_with fail
  have hb1 : Below w.heap.size w (w.alloc (.cells #[.int .u64 (z : Int), .int .u64 1] 23)) := (Below.refl _ w).alloc (Nat.le_refl _) _
  refine (product_any (some ⟨w.heap.size, 0, none⟩) A 2 2 la ca K [z, 1] a _ rfl HN.out (by omega) (by have := HK.out; omega) (by omega) hla (by intro y hy; simp at hy; omega) HAB.out (rd_two w z 1) ((HA.out.below hb1).more (by simp))).mono ?_
  rintro e w2 ⟨⟨g, L, rfl, hg1, hg2, hg3, hg4, hg5⟩, hb2⟩
  have H2 := Lib.hid hg2
  have H3 := Lib.hid hg3
  have H4 := Lib.hid hg4
  have H5 := Lib.hid hg5
  clear hg2 hg3 hg4 hg5
  go_wp2
  go_ret
  refine ⟨⟨g, L, rfl, ?_, H2.out, H3.out, H4.out, by rw [H5.out, HCO.out]⟩, hb1.trans (hb2.mono (by simp))⟩
  simp at hg1
  omega
end Go.Proofs.Ytalljoneflepiaa
