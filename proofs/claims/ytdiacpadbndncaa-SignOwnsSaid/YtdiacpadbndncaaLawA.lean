/-
  The statements HashSums, HashBytes and HashStreams: the walks, over natural numbers and lists. No condition but what fits memory.
-/
import Derived.Test.YtdiacpadbndncaaLives
namespace Go.Proofs.Ytdiacpadbndncaa
open Go.RowKit

/-! ### slices that came in -/
theorem cell_lt {w : World} {b o : Nat} {v : Value} (h : w.cell? ⟨b, o, none⟩ = some v) : b < w.heap.size := by
  rcases Nat.lt_or_ge b w.heap.size with h1 | h1
  · exact h1
  · simp [World.cell?, Array.getElem?_eq_none h1] at h

theorem row_any (k : IntKind) (w : World) (a : Option Addr) (len cap : Nat) (zs : List Int)
    (h : (a = none ∧ len = 0 ∧ cap = 0 ∧ zs = []) ∨
      ∃ x, a = some x ∧ len ≤ cap ∧ cap ≤ maxLen ∧ zs.length = cap ∧ (∀ i, i < zs.length → w.cell? (x.add i) = some (.int k (zs.getD i 0))) ∧ ∀ n ∈ zs, (Lit.int k n).wf = true) :
    (zs.take len).length = len ∧ len ≤ cap ∧ cap ≤ 9223372036854775807 ∧ (a = none → cap = 0) ∧ (∀ n ∈ zs.take len, (Lit.int k n).wf = true) ∧
      (0 < len → ∃ b off, a = some ⟨b, off, none⟩ ∧ b < w.heap.size ∧ ∀ i u, (zs.take len)[i]? = some u → w.cell? ⟨b, off + i, none⟩ = some (.int k u)) := by
  rcases h with ⟨rfl, rfl, rfl, rfl⟩ | ⟨x, rfl, hl, hm, hz, hc, hw⟩
  · exact ⟨rfl, Nat.le_refl _, by omega, fun _ => rfl, by simp, fun h => absurd h (by omega)⟩
  · unfold maxLen at hm
    refine ⟨by rw [List.length_take]; omega, hl, hm, fun h => (by cases h), fun n hn => hw n (List.mem_of_mem_take hn), fun h0 => ?_⟩
    obtain ⟨ab, ao, spot⟩ := x
    have h00 := hc 0 (by omega)
    have hspot : spot = none := by simpa [Addr.add] using World.cell?_spot h00
    subst hspot
    rw [Addr.add_lit] at h00
    refine ⟨ab, ao, rfl, cell_lt h00, fun i u hu => ?_⟩
    have hi : i < zs.length := by
      rcases Nat.lt_or_ge i zs.length with h1 | h1
      · exact h1
      · rw [List.getElem?_eq_none (by rw [List.length_take]; omega)] at hu; cases hu
    have hci := hc i hi
    rw [Addr.add_lit] at hci
    rw [hci]
    rw [List.getElem?_take] at hu
    split at hu
    · rw [List.getD_eq_getElem?_getD, hu]; rfl
    · cases hu

theorem row_u64 (w : World) (a : Option Addr) (len cap : Nat) (zs : List Int)
    (h : (a = none ∧ len = 0 ∧ cap = 0 ∧ zs = []) ∨
      ∃ x, a = some x ∧ len ≤ cap ∧ cap ≤ maxLen ∧ zs.length = cap ∧ (∀ i, i < zs.length → w.cell? (x.add i) = some (.int .u64 (zs.getD i 0))) ∧ ∀ n ∈ zs, (Lit.int .u64 n).wf = true) :
    ∃ l : List Nat, len = l.length ∧ len ≤ cap ∧ (∀ x ∈ l, x < 18446744073709551616) ∧ Rd w.heap.size w a (u64s l) ∧ (a = none → cap = 0) := by
  obtain ⟨h1, h2, _, h3, h4, h5⟩ := row_any .u64 w a len cap zs h
  refine ⟨(zs.take len).map Int.toNat, by rw [List.length_map, h1], h2, fun x hx => ?_, fun hp => ?_, h3⟩
  · obtain ⟨n, hn, rfl⟩ := List.mem_map.1 hx
    have := bounds_u64 (h4 n hn)
    omega
  · rw [u64s_len, List.length_map, h1] at hp
    obtain ⟨b, off, e, hb, hc⟩ := h5 hp
    refine ⟨b, off, e, hb, fun i u hu => ?_⟩
    unfold u64s at hu
    rw [List.map_map, List.getElem?_map] at hu
    obtain ⟨n, hn, rfl⟩ := Option.map_eq_some_iff.1 hu
    have hnn := bounds_u64 (h4 n (List.mem_of_getElem? hn))
    rw [hc i n hn]
    show some (Value.int .u64 n) = some (Value.int .u64 ((n.toNat : Nat) : Int))
    rw [Int.toNat_of_nonneg hnn.1]

theorem row_u8 (w : World) (a : Option Addr) (len cap : Nat) (zs : List Int)
    (h : (a = none ∧ len = 0 ∧ cap = 0 ∧ zs = []) ∨
      ∃ x, a = some x ∧ len ≤ cap ∧ cap ≤ maxLen ∧ zs.length = cap ∧ (∀ i, i < zs.length → w.cell? (x.add i) = some (.int .u8 (zs.getD i 0))) ∧ ∀ n ∈ zs, (Lit.int .u8 n).wf = true) :
    ∃ l : List UInt8, len = l.length ∧ len ≤ cap ∧ Rd w.heap.size w a (u8s l) ∧ (a = none → cap = 0) := by
  obtain ⟨h1, h2, _, h3, h4, h5⟩ := row_any .u8 w a len cap zs h
  refine ⟨(zs.take len).map fun n => UInt8.ofNat n.toNat, by rw [List.length_map, h1], h2, fun hp => ?_, h3⟩
  rw [u8s_len, List.length_map, h1] at hp
  obtain ⟨b, off, e, hb, hc⟩ := h5 hp
  refine ⟨b, off, e, hb, fun i u hu => ?_⟩
  unfold u8s at hu
  rw [List.map_map, List.getElem?_map] at hu
  obtain ⟨n, hn, rfl⟩ := Option.map_eq_some_iff.1 hu
  have hnn := bounds_u8 (h4 n (List.mem_of_getElem? hn))
  rw [hc i n hn]
  show some (Value.int .u8 n) = some (Value.int .u8 (((UInt8.ofNat n.toNat).toNat : Nat) : Int))
  rw [UInt8.toNat_ofNat']
  congr 2
  omega

/-! ### HashSums -/
/-! ### HashBytes -/
/-! ### HashStreams -/
theorem Rd.of_blk {w : World} {g t : Nat} {cs : List Value} (h : Blk w g t cs.toArray) : Rd w.heap.size w (some ⟨g, 0, none⟩) cs := fun _ =>
  ⟨g, 0, rfl, h.lt, fun i u hu => by rw [Nat.zero_add, h.cell i]; simpa using hu⟩
theorem Hsh.stream_take (key n k : Nat) (h : k ≤ n) : (Hsh.stream key n).take k = Hsh.stream key k := by
  unfold Hsh.stream
  rw [← List.map_take, List.take_range, Nat.min_eq_left h]
theorem u8s_take (l : List UInt8) (k : Nat) : (u8s l).take k = u8s (l.take k) := by unfold u8s; rw [List.map_take]
theorem Rd.take {B : Nat} {w : World} {A : Option Addr} {vs : List Value} (h : Rd B w A vs) (k : Nat) : Rd B w A (vs.take k) := fun hp => by
  obtain ⟨b, off, e, hlt, hc⟩ := h (by rw [List.length_take] at hp; omega)
  refine ⟨b, off, e, hlt, fun i u hu => hc i u ?_⟩
  rw [List.getElem?_take] at hu
  split at hu
  · exact hu
  · cases hu

end Go.Proofs.Ytdiacpadbndncaa
