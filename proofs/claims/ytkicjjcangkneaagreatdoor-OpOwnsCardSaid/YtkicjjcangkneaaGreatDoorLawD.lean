/-
  The statement HashByte: the walk, over natural numbers and lists of bytes. No condition but what fits memory.
-/
import Derived.Test.YtkicjjcangkneaaGreatDoorLawB
import Derived.Test.YtkicjjcangkneaaGreatDoorTells
import Derived.Deep.DeepCutAuto
import Derived.Deep.RegionHeld3
namespace Go.Proofs.YtkicjjcangkneaaGreatDoor
open Go.RowKit
attribute [local go_sem ↓] Go.wp_at_zero Go.wp_at_succ

theorem xor_byte (a b : Nat) (ha : a < 256) (hb : b < 256) : ∃ z : Nat, z < 256 ∧ bits .xor .u8 (a : Int) (b : Int) = (z : Int) := by
  have h : a ^^^ b < 2 ^ 8 := Nat.xor_lt_two_pow (by omega) (by omega)
  exact ⟨a ^^^ b, h, u8_xor_nat a b ha hb⟩
theorem u8_of (z : Nat) (hz : z < 256) : (UInt8.ofNat z).toNat = z := by rw [UInt8.toNat_ofNat']; omega
theorem u8s_set (l : List UInt8) (i z : Nat) (hz : z < 256) : (u8s l).set i (.int .u8 (z : Int)) = u8s (l.set i (UInt8.ofNat z)) := by
  unfold u8s
  rw [List.map_set, u8_of z hz]

theorem conv_bytes (l : List UInt8) (g K cap B : Nat) (W : World) (hK : K = l.length) (h : Rd B W (some ⟨g, 0, none⟩) (u8s l)) :
    (convert 28 9 (.slice (some ⟨g, 0, none⟩) K cap)).run Tryz.prog W = .ok (.string ⟨l.toArray⟩) W := by
  rw [hK]
  refine run_convert_bytes_back (P := Tryz.prog) W 28 9 5 ⟨g, 0, none⟩ cap l Tryz.underlying28 Tryz.underlying5 Tryz.underlying9 fun j hj => ?_
  obtain ⟨b, off, e, _, hcl⟩ := byte_cell h hj
  injection e with e
  injection e with e1 e2
  subst e1 e2
  rw [Addr.add_lit]
  exact hcl
theorem blk_two (W : World) (o : Obj) (t : Nat) (cs : Array Value) : Blk ((W.alloc o).alloc (.cells cs t)) (W.heap.size + 1) t cs := by
  have h := blk_new (W.alloc o) t cs
  rw [World.size_alloc] at h
  exact h
theorem below_alloc {w w' : World} (h : Below w.heap.size w w') (o : Obj) : Below w.heap.size w (w'.alloc o) := h.alloc h.size o

end Go.Proofs.YtkicjjcangkneaaGreatDoor
