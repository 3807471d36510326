/-
  Package hash's word, of a string and of bytes: the number that a few bytes make, the first of them the least; the world is left as it was. For up to seven bytes.
-/
import Derived.Test.YtdiacpadbndncaaTake
import Derived.Laws.BitsAllLaws
import Derived.Laws.BitsLemmas
namespace Go.Proofs.Ytdiacpadbndncaa
open Go.RowKit

theorem or_high (a b i : Nat) (ha : a < 2 ^ i) : a ||| (b * 2 ^ i) = a + 2 ^ i * b := by
  have h := Nat.two_pow_add_eq_or_of_lt ha b
  rw [Nat.or_comm, Nat.mul_comm b, ← h]
  omega

theorem le_take_snoc (s : ByteArray) (k : Nat) (h : k < s.size) : Hsh.le (s.data.toList.take (k + 1)) = Hsh.le (s.data.toList.take k) + 256 ^ k * (s[k]).toNat := by
  have e : s.data.toList.take (k + 1) = s.data.toList.take k ++ [s[k]] := by
    rw [List.take_succ_eq_append_getElem (by simpa using h)]; rfl
  rw [e, Hsh.le_snoc]
  congr 2
  simp only [List.length_take, Array.length_toList]
  have : s.data.size = s.size := rfl
  rw [this, Nat.min_eq_left (by omega)]

theorem or_at (a b i p : Nat) (hp : p = 2 ^ i) (ha : a < p) (hs : p * 256 ≤ 72057594037927936) (hb : b < 256) :
    bits .or .u64 (a : Int) (IntKind.u64.wrap (IntKind.u64.wrap (b : Int) * ((p : Nat) : Int))) = ((a + p * b : Nat) : Int) := by
  have h0 : b * p ≤ 255 * p := Nat.mul_le_mul_right _ (by omega)
  have h1 : b * p < 18446744073709551616 := by omega
  have e0 : IntKind.u64.wrap (b : Int) = (b : Int) := by rw [IntKind.wrap_u64]; omega
  have e1 : IntKind.u64.wrap ((b : Int) * ((p : Nat) : Int)) = ((b * p : Nat) : Int) := by
    rw [← Int.natCast_mul, IntKind.wrap_u64]; omega
  rw [e0, e1, bits_or_u64_nat _ _ (by omega) h1, hp, or_high a b i (hp ▸ ha)]
theorem or_word (a b k : Nat) (hk : k ≤ 6) (ha : a < 256 ^ k) (hb : b < 256) :
    bits .or .u64 (a : Int) (IntKind.u64.wrap (IntKind.u64.wrap (b : Int) * 2 ^ (8 * k))) = ((a + 256 ^ k * b : Nat) : Int) := by
  have h : k = 0 ∨ k = 1 ∨ k = 2 ∨ k = 3 ∨ k = 4 ∨ k = 5 ∨ k = 6 := by omega
  rcases h with rfl | rfl | rfl | rfl | rfl | rfl | rfl
  · exact or_at a b 0 1 rfl ha (by omega) hb
  · exact or_at a b 8 256 rfl ha (by omega) hb
  · exact or_at a b 16 65536 rfl ha (by omega) hb
  · exact or_at a b 24 16777216 rfl ha (by omega) hb
  · exact or_at a b 32 4294967296 rfl ha (by omega) hb
  · exact or_at a b 40 1099511627776 rfl ha (by omega) hb
  · exact or_at a b 48 281474976710656 rfl ha (by omega) hb

/-- A slice at A (below block B) holds the values vs. -/
def Rd (B : Nat) (w : World) (A : Option Addr) (vs : List Value) : Prop :=
  0 < vs.length → ∃ b off, A = some ⟨b, off, none⟩ ∧ b < B ∧ ∀ i u, vs[i]? = some u → w.cell? ⟨b, off + i, none⟩ = some u
theorem Rd.nil {B : Nat} {w : World} {A : Option Addr} : Rd B w A [] := fun h => absurd h (by simp)
theorem Rd.below {B : Nat} {w w' : World} {A : Option Addr} {vs : List Value} (h : Rd B w A vs) (hb : Below B w w') : Rd B w' A vs := fun hp => by
  obtain ⟨b, off, e, hlt, hc⟩ := h hp
  exact ⟨b, off, e, hlt, fun i u hu => (hb.cell (p := ⟨b, off + i, none⟩) hlt).trans (hc i u hu)⟩
theorem Rd.more {B B' : Nat} {w : World} {A : Option Addr} {vs : List Value} (h : Rd B w A vs) (hB : B ≤ B') : Rd B' w A vs := fun hp => by
  obtain ⟨b, off, e, hlt, hc⟩ := h hp
  exact ⟨b, off, e, by omega, hc⟩
theorem Rd.at_ {B : Nat} {w : World} {A : Option Addr} {vs : List Value} (h : Rd B w A vs) {k : Nat} (hk : k < vs.length) : ∃ b off, A = some ⟨b, off, none⟩ ∧ b < B ∧ w.cell? ⟨b, off + k, none⟩ = some vs[k] := by
  obtain ⟨b, off, e, hlt, hc⟩ := h (by omega)
  exact ⟨b, off, e, hlt, hc k _ (List.getElem?_eq_getElem hk)⟩
def u8s (l : List UInt8) : List Value := l.map fun b => .int .u8 (b.toNat : Int)
def u64s (l : List Nat) : List Value := l.map fun n : Nat => .int .u64 (n : Int)
theorem u8s_len (l : List UInt8) : (u8s l).length = l.length := by simp [u8s]
theorem u64s_len (l : List Nat) : (u64s l).length = l.length := by simp [u64s]

set_option maxHeartbeats 400000 in
theorem word_string (s : ByteArray) (w : World) (hs : s.size ≤ 7) :
    Calls Try.prog 59 #[.string s] w fun e w' => e = .returned (.int .u64 (Hsh.le s.data.toList : Nat)) ∧ w = w' := by
  go_enter Try.func59, Try.ntmps59
  go_wp2
  go_loop [3, 7] (fun n i => ∃ k : Nat, k ≤ s.size ∧ i = .int .i64 k ∧ n = .int .u64 (Hsh.le (s.data.toList.take k) : Nat)) (fun _ i => s.size - (intOf i).toNat)
  case atStart => exact ⟨0, Nat.zero_le _, rfl, rfl⟩
  case round =>
    obtain ⟨k, hk, rfl, rfl⟩ := hrel
    by_cases hlt : k < s.size
    · have hsn := le_take_snoc s k hlt
      have hb := (s[k]).toNat_lt
      have ha : Hsh.le (s.data.toList.take k) < 256 ^ k := by
        have h := Hsh.le_lt (s.data.toList.take k)
        have e : (s.data.toList.take k).length = k := by
          have : s.data.size = s.size := rfl
          simp only [List.length_take, Array.length_toList, this]; omega
        rwa [e] at h
      have ho := or_word _ _ k (by omega) ha hb
      rw [← hsn] at ho
      have HO := Lib.hid ho
      have HA := Lib.hid ha
      clear hsn ho ha hb
      go_wp2
      go_round
      case rel => exact ⟨k + 1, by omega, by go_num, by rw [HO.out]⟩
      case measure => simp [intOf]; omega
    · go_wp2
      go_ret
      exact ⟨ret_u64 (by rw [List.take_of_length_le (by simp; omega)]), rfl⟩

theorem le_list_snoc (l : List UInt8) (k : Nat) (h : k < l.length) : Hsh.le (l.take (k + 1)) = Hsh.le (l.take k) + 256 ^ k * (l[k]).toNat := by
  rw [List.take_succ_eq_append_getElem h, Hsh.le_snoc, List.length_take, Nat.min_eq_left (by omega)]

set_option maxHeartbeats 400000 in
theorem word_bytes (l : List UInt8) (b off n c : Nat) (w : World) (hn : n = l.length) (hl : n ≤ 7) (hc : ∀ i u, (u8s l)[i]? = some u → w.cell? ⟨b, off + i, none⟩ = some u) :
    Calls Try.prog 57 #[.slice (some ⟨b, off, none⟩) n c] w fun e w' => e = .returned (.int .u64 (Hsh.le l : Nat)) ∧ w = w' := by
  have HC := Lib.hid hc
  have HN := Lib.hid hn
  clear hc hn
  go_enter Try.func57, Try.ntmps57
  go_wp2
  go_loop [3, 7] (fun v i => ∃ k : Nat, k ≤ n ∧ i = .int .i64 k ∧ v = .int .u64 (Hsh.le (l.take k) : Nat)) (fun _ i => n - (intOf i).toNat)
  case atStart => exact ⟨0, Nat.zero_le _, rfl, rfl⟩
  case round =>
    obtain ⟨k, hk, rfl, rfl⟩ := hrel
    by_cases hlt : k < n
    · have hll : k < l.length := by rw [← HN.out]; exact hlt
      have hsn := le_list_snoc l k hll
      have hb := (l[k]).toNat_lt
      have hcell : w.cell? ⟨b, off + k, none⟩ = some (.int .u8 ((l[k]).toNat : Int)) := HC.out k _ (by unfold u8s; rw [List.getElem?_map, List.getElem?_eq_getElem hll]; rfl)
      have ha : Hsh.le (l.take k) < 256 ^ k := by
        have h := Hsh.le_lt (l.take k)
        have e : (l.take k).length = k := by rw [List.length_take]; omega
        rwa [e] at h
      have ho := or_word _ _ k (by omega) ha hb
      rw [← hsn] at ho
      obtain ⟨z, hz⟩ : ∃ z : Nat, z = (l[k]).toNat := ⟨_, rfl⟩
      rw [← hz] at ho hcell
      have HO := Lib.hid ho
      clear hsn ho ha hb hz hll
      go_wp2
      go_round
      case rel => exact ⟨k + 1, by omega, by go_num, by rw [HO.out]⟩
      case measure => simp [intOf]; omega
    · go_wp2
      go_ret
      exact ⟨ret_u64 (by rw [List.take_of_length_le (by have := HN.out; omega)]), rfl⟩

end Go.Proofs.Ytdiacpadbndncaa
