/-
  Package seal: Seal and Open tell what the document says; what was there is left as it was. Keys of 64 bits, along of up to 2^30 bytes, texts of up to 2^20.
-/
import Derived.Test.YtdiacpadbndncaaSed
namespace Go.Proofs.Ytdiacpadbndncaa
open Go.RowKit

/-- A slice of bytes that can be read. -/
structure Bt (w : World) (A : Option Addr) (n c : Nat) (l : List UInt8) : Prop where
  len : n = l.length
  cap : n ≤ c
  nil : A = none → c = 0
  rd : Rd w.heap.size w A (u8s l)
theorem Bt.below {w w' : World} {A : Option Addr} {n c : Nat} {l : List UInt8} (h : Bt w A n c l) (hb : Below w.heap.size w w') : Bt w' A n c l :=
  ⟨h.len, h.cap, h.nil, (h.rd.below hb).more hb.size⟩
theorem Bt.new {w : World} {A : Option Addr} {n c : Nat} {l : List UInt8} (h : Bt w A n c l) (o : Obj) : Bt (w.alloc o) A n c l := h.below ((Below.refl _ w).alloc (Nat.le_refl _) _)
theorem Bt.take {w : World} {A : Option Addr} {n c : Nat} {l : List UInt8} (h : Bt w A n c l) {k : Nat} (hk : k ≤ n) : Bt w A k c (l.take k) :=
  ⟨by rw [List.length_take, ← h.len]; omega, Nat.le_trans hk h.cap, h.nil, by rw [← u8s_take]; exact h.rd.take k⟩
theorem Rd.drop {B : Nat} {w : World} {g off : Nat} {vs : List Value} (h : Rd B w (some ⟨g, off, none⟩) vs) (k : Nat) : Rd B w (some ⟨g, off + k, none⟩) (vs.drop k) := fun hp => by
  rw [List.length_drop] at hp
  obtain ⟨b, off', e, hlt, hc⟩ := h (by omega)
  injection e with e
  injection e with e1 e2
  subst e1 e2
  refine ⟨_, _, rfl, hlt, fun i u hu => ?_⟩
  rw [List.getElem?_drop] at hu
  rw [Nat.add_assoc]
  exact hc (k + i) u hu
theorem Bt.spot {w : World} {A : Option Addr} {n c : Nat} {l : List UInt8} (h : Bt w A n c l) (hn : 0 < n) : ∃ g off, A = some ⟨g, off, none⟩ := by
  obtain ⟨b, off, e, _⟩ := h.rd (by rw [u8s_len, ← h.len]; exact hn)
  exact ⟨b, off, e⟩
theorem Bt.drop {w : World} {g off n c : Nat} {l : List UInt8} (h : Bt w (some ⟨g, off, none⟩) n c l) {k : Nat} (hk : k ≤ n) : Bt w (some ⟨g, off + k, none⟩) (n - k) (c - k) (l.drop k) :=
  ⟨by rw [List.length_drop, ← h.len], by have := h.cap; omega, fun e => (by cases e), by
    have := h.rd.drop k
    unfold u8s at this ⊢
    rw [List.map_drop]
    exact this⟩
theorem Bt.of_blk {w : World} {g n : Nat} {l : List UInt8} (h : Blk w g 5 (u8s l).toArray) (hn : n = l.length) : Bt w (some ⟨g, 0, none⟩) n n l :=
  ⟨hn, Nat.le_refl _, fun e => (by cases e), Rd.of_blk h⟩
theorem own_cap {w : World} {B e s n m c : Nat} {A : Option Addr} {xs : List Value} (h : w.ownsRow B e s (.slice A n c) m xs) : m ≤ c ∧ (A = none → c = 0) := by
  rcases h.2 with ⟨h1, rfl⟩ | ⟨g, cap, cur, h1, _, _, h2, _⟩
  · injection h1 with e1 e2 e3
    subst e1 e3
    exact ⟨Nat.le_refl _, fun _ => rfl⟩
  · injection h1 with e1 e2 e3
    subst e3 e1
    exact ⟨h2, fun e => by cases e⟩
theorem Bt.of_own {w : World} {B n c : Nat} {A : Option Addr} {l : List UInt8} (h : w.ownsRow B 5 1 (.slice A n c) n (u8s l)) : Bt w A n c l :=
  ⟨by have := h.1; rw [u8s_len] at this; omega, (own_cap h).1, (own_cap h).2, Rd.of_own h⟩
theorem own_base {w : World} {B B' e s n : Nat} {v : Value} {xs : List Value} (h : w.ownsRow B e s v n xs) (hB : B' ≤ B) : w.ownsRow B' e s v n xs := by
  refine ⟨h.1, ?_⟩
  rcases h.2 with h | ⟨g, cp, cur, e1, e2, e3⟩
  · exact .inl h
  · exact .inr ⟨g, cp, cur, e1, Nat.le_trans hB e2, e3⟩
theorem slice_from (g off n c k : Nat) (hk : k ≤ n) (hc : k < c) (W : World) :
    (Instr.slice 23 (.slice (some ⟨g, off, none⟩) n c) (some (.int .i64 (k : Int))) none none).run Try.prog W = .ok (.slice (some ⟨g, off + k, none⟩) (n - k) (c - k)) W := by
  have hz : (sizeOf (Try.prog.elem 23)).run Try.prog W = .ok 1 W := by kernel_rfl
  have h := run_slice_l (P := Try.prog) W 23 (some ⟨g, off, none⟩) n c (by kernel_rfl) .i64 (k : Int) (by omega) (by omega)
  rw [h, hz]
  simp only [Result.andThen, sliced, Int.toNat_natCast]
  rw [if_neg (by omega)]
  simp
  exact Addr.add_lit _ _ _

theorem opn_ok (k : Nat) (a b : List UInt8) (m : Nat) (hm : m + 8 = b.length) (h : b.drop m = Sl.tag k a (b.take m)) : Sl.opn k a b = (Sl.mask k (b.take m), 0) := by
  obtain rfl : m = b.length - 8 := by omega
  unfold Sl.opn Sl.tail Sl.body
  rw [if_neg (by omega), if_pos h]
theorem opn_bad (k : Nat) (a b : List UInt8) (m : Nat) (hm : m + 8 = b.length) (h : b.drop m ≠ Sl.tag k a (b.take m)) : Sl.opn k a b = ([], 21) := by
  obtain rfl : m = b.length - 8 := by omega
  unfold Sl.opn Sl.tail Sl.body
  rw [if_neg (by omega), if_neg h]

/-- What Open tells. -/
def Opn (e : Ending) (w' : World) (r : List UInt8 × Nat) : Prop := ∃ A n c, e = .returned (.tuple #[.slice A n c, .int .i64 (r.2 : Nat)]) ∧ Bt w' A n c r.1
theorem Bt.empty (w : World) : Bt w none 0 0 [] := ⟨rfl, Nat.le_refl _, fun _ => rfl, Rd.nil⟩

end Go.Proofs.Ytdiacpadbndncaa
