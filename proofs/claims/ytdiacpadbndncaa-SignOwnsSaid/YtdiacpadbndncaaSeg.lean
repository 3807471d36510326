/-
  The reference's Open of chapter 7; the document's example holds; the statements' calls told of slices that can be read. Keys of 64 bits, up to 2^20 bytes.
-/
import Derived.Test.YtdiacpadbndncaaSef
import Derived.Lib.SlBytesConst
namespace Go.Proofs.Ytdiacpadbndncaa
open Go.RowKit

/-! ### the calls, told of slices -/
theorem few_v {w : World} {A : Option Addr} {n c : Nat} {l : List UInt8} (h : Bt w A n c l) (most : Nat) (hmost : most ≤ 1000) :
    Calls Try.prog 10 #[.slice A n c, .int .i64 (most : Int)] w fun e w' => (∃ A' m c', e = .returned (.slice A' m c') ∧ Bt w' A' m c' (l.take most) ∧ m ≤ most) ∧ Below w.heap.size w w' :=
  (few_any l A n c most w h.len h.cap hmost h.rd h.nil).mono fun _ _ ⟨A', c', h1, h2, h3⟩ => ⟨⟨A', _, c', h1, Bt.of_own h2, by omega⟩, h3⟩
/-! ### the document's example -/
theorem conv_lit (w : World) (C : Array Value) (n c : Nat) : (convert 23 23 (.slice (some ⟨w.heap.size, 0, none⟩) n c)).run Try.prog (w.alloc (.cells C 5)) = .ok (.slice (some ⟨w.heap.size, 0, none⟩) n c) (w.alloc (.cells C 5 (C.size, C.size + 1))) :=
  Lib.run_convert_bytes_const (P := Try.prog) w 23 5 C n c Try.underlying23 Try.underlying5
theorem conv_lit2 (w : World) (o : Obj) (C : Array Value) (n c : Nat) : (convert 23 23 (.slice (some ⟨w.heap.size + 1, 0, none⟩) n c)).run Try.prog ((w.alloc o).alloc (.cells C 5)) = .ok (.slice (some ⟨w.heap.size + 1, 0, none⟩) n c) ((w.alloc o).alloc (.cells C 5 (C.size, C.size + 1))) := by
  have h := conv_lit (w.alloc o) C n c
  rw [World.size_alloc] at h
  exact h
theorem Bt.lit (w : World) (x : UInt8) (y : Int) (m : Nat × Nat) (hy : y = (x.toNat : Int)) : Bt (w.alloc (.cells #[.int .u8 y] 5 m)) (some ⟨w.heap.size, 0, none⟩) 1 1 [x] := by
  refine ⟨rfl, Nat.le_refl _, fun e => (by cases e), fun _ => ⟨_, _, rfl, by simp, fun i u hu => ?_⟩⟩
  subst hy
  rw [Nat.zero_add, cell_block (heap_alloc_new w _)]
  simpa [u8s] using hu

end Go.Proofs.Ytdiacpadbndncaa
