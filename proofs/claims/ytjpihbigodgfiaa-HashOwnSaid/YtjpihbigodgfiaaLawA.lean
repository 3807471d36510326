/-
  The statements HashSums, HashBytes and HashStreams: the walks, over natural numbers and lists. No condition but what fits memory.
-/
import Derived.Test.YtjpihbigodgfiaaLives
namespace Go.Proofs.Ytjpihbigodgfiaa
open Go.RowKit

/-! ### slices that came in -/
theorem cell_lt {w : World} {b o : Nat} {v : Value} (h : w.cell? ⟨b, o, none⟩ = some v) : b < w.heap.size := by
  rcases Nat.lt_or_ge b w.heap.size with h1 | h1
  · exact h1
  · simp [World.cell?, Array.getElem?_eq_none h1] at h

theorem row_any (k : IntKind) (w : World) (a : Option Addr) (len cap : Nat) (zs : List Int)
    (h : (a = none ∧ len = 0 ∧ cap = 0 ∧ zs = []) ∨
      ∃ x, a = some x ∧ len ≤ cap ∧ cap ≤ maxLen ∧ zs.length = cap ∧ (∀ i, i < zs.length → w.cell? (x.add i) = some (.int k (zs.getD i 0))) ∧ ∀ n ∈ zs, (Lit.int k n).wf = true) :
    (zs.take len).length = len ∧ len ≤ cap ∧ cap ≤ 9223372036854775807 ∧ (a = none → cap = 0) ∧ (∀ n ∈ zs.take len, (Lit.int k n).wf = true) ∧
      (0 < len → ∃ b off, a = some ⟨b, off, none⟩ ∧ b < w.heap.size ∧ ∀ i u, (zs.take len)[i]? = some u → w.cell? ⟨b, off + i, none⟩ = some (.int k u)) := by
  rcases h with ⟨rfl, rfl, rfl, rfl⟩ | ⟨x, rfl, hl, hm, hz, hc, hw⟩
  · exact ⟨rfl, Nat.le_refl _, by omega, fun _ => rfl, by simp, fun h => absurd h (by omega)⟩
  · unfold maxLen at hm
    refine ⟨by rw [List.length_take]; omega, hl, hm, fun h => (by cases h), fun n hn => hw n (List.mem_of_mem_take hn), fun h0 => ?_⟩
    obtain ⟨ab, ao, spot⟩ := x
    have h00 := hc 0 (by omega)
    have hspot : spot = none := by simpa [Addr.add] using World.cell?_spot h00
    subst hspot
    rw [Addr.add_lit] at h00
    refine ⟨ab, ao, rfl, cell_lt h00, fun i u hu => ?_⟩
    have hi : i < zs.length := by
      rcases Nat.lt_or_ge i zs.length with h1 | h1
      · exact h1
      · rw [List.getElem?_eq_none (by rw [List.length_take]; omega)] at hu; cases hu
    have hci := hc i hi
    rw [Addr.add_lit] at hci
    rw [hci]
    rw [List.getElem?_take] at hu
    split at hu
    · rw [List.getD_eq_getElem?_getD, hu]; rfl
    · cases hu

theorem row_u64 (w : World) (a : Option Addr) (len cap : Nat) (zs : List Int)
    (h : (a = none ∧ len = 0 ∧ cap = 0 ∧ zs = []) ∨
      ∃ x, a = some x ∧ len ≤ cap ∧ cap ≤ maxLen ∧ zs.length = cap ∧ (∀ i, i < zs.length → w.cell? (x.add i) = some (.int .u64 (zs.getD i 0))) ∧ ∀ n ∈ zs, (Lit.int .u64 n).wf = true) :
    ∃ l : List Nat, len = l.length ∧ len ≤ cap ∧ (∀ x ∈ l, x < 18446744073709551616) ∧ Rd w.heap.size w a (u64s l) ∧ (a = none → cap = 0) := by
  obtain ⟨h1, h2, _, h3, h4, h5⟩ := row_any .u64 w a len cap zs h
  refine ⟨(zs.take len).map Int.toNat, by rw [List.length_map, h1], h2, fun x hx => ?_, fun hp => ?_, h3⟩
  · obtain ⟨n, hn, rfl⟩ := List.mem_map.1 hx
    have := bounds_u64 (h4 n hn)
    omega
  · rw [u64s_len, List.length_map, h1] at hp
    obtain ⟨b, off, e, hb, hc⟩ := h5 hp
    refine ⟨b, off, e, hb, fun i u hu => ?_⟩
    unfold u64s at hu
    rw [List.map_map, List.getElem?_map] at hu
    obtain ⟨n, hn, rfl⟩ := Option.map_eq_some_iff.1 hu
    have hnn := bounds_u64 (h4 n (List.mem_of_getElem? hn))
    rw [hc i n hn]
    show some (Value.int .u64 n) = some (Value.int .u64 ((n.toNat : Nat) : Int))
    rw [Int.toNat_of_nonneg hnn.1]

theorem row_u8 (w : World) (a : Option Addr) (len cap : Nat) (zs : List Int)
    (h : (a = none ∧ len = 0 ∧ cap = 0 ∧ zs = []) ∨
      ∃ x, a = some x ∧ len ≤ cap ∧ cap ≤ maxLen ∧ zs.length = cap ∧ (∀ i, i < zs.length → w.cell? (x.add i) = some (.int .u8 (zs.getD i 0))) ∧ ∀ n ∈ zs, (Lit.int .u8 n).wf = true) :
    ∃ l : List UInt8, len = l.length ∧ len ≤ cap ∧ Rd w.heap.size w a (u8s l) ∧ (a = none → cap = 0) := by
  obtain ⟨h1, h2, _, h3, h4, h5⟩ := row_any .u8 w a len cap zs h
  refine ⟨(zs.take len).map fun n => UInt8.ofNat n.toNat, by rw [List.length_map, h1], h2, fun hp => ?_, h3⟩
  rw [u8s_len, List.length_map, h1] at hp
  obtain ⟨b, off, e, hb, hc⟩ := h5 hp
  refine ⟨b, off, e, hb, fun i u hu => ?_⟩
  unfold u8s at hu
  rw [List.map_map, List.getElem?_map] at hu
  obtain ⟨n, hn, rfl⟩ := Option.map_eq_some_iff.1 hu
  have hnn := bounds_u8 (h4 n (List.mem_of_getElem? hn))
  rw [hc i n hn]
  show some (Value.int .u8 n) = some (Value.int .u8 (((UInt8.ofNat n.toNat).toNat : Nat) : Int))
  rw [UInt8.toNat_ofNat']
  congr 2
  omega

/-! ### HashSums -/
set_option maxRecDepth 100000 in
set_option maxHeartbeats 1000000 in
theorem sums_walk (s : ByteArray) (l : List Nat) (A : Option Addr) (n c : Nat) (w : World) (hn : n = l.length) (hnc : n ≤ c) (hl : ∀ x ∈ l, x < 18446744073709551616) (hA : Rd w.heap.size w A (u64s l)) (hnil : A = none → c = 0) :
    Calls Try.prog 3 #[.string s, .slice A n c] w fun e w' => e = .returned (.bool true) ∧ Below w.heap.size w w' := by
  have hnums := nums_any l A n c 6 w hn hnc (by omega) hA hnil
  have HNUMS := Lib.hid hnums
  have HL := Lib.hid hl
  have HN := Lib.hid hn
  clear hnums hl hn hA hnil
  go_enter Try.func3, Try.ntmps3
  go_wp2_with fail
  refine (short_any s 20 w (by omega)).mono ?_
  rintro e w' ⟨t, rfl, ht, rfl⟩
  go_wp2_with fail
  refine (HNUMS.out).mono ?_
  rintro e w1 ⟨A1, c1, rfl, hrow, hb1⟩
  have hrd := Rd.of_own hrow
  have HK := Lib.hid (show min n 6 = (l.take 6).length by rw [List.length_take, ← HN.out, Nat.min_comm])
  obtain ⟨k, hk⟩ : ∃ k, k = min n 6 := ⟨_, rfl⟩
  have hk6 : k ≤ 6 := by omega
  rw [← hk] at HK ⊢
  have HLT := Lib.hid (show ∀ x ∈ l.take 6, x < 18446744073709551616 from fun x hx => HL.out x (List.mem_of_mem_take hx))
  have HRD := Lib.hid hrd
  have HR1 := Lib.hid hrow
  obtain ⟨L, hL⟩ : ∃ L, L = l.take 6 := ⟨_, rfl⟩
  rw [← hL] at HK HLT HRD
  clear hk hrd hrow hL
  go_wp2_with fail
  refine (of_any t A1 k c1 L w1 (by omega) HK.out (by omega) HLT.out HRD.out).mono ?_
  rintro e w2 ⟨rfl, hb2⟩
  have HRD2 := Lib.hid (HRD.out.below hb2)
  go_wp2_with fail
  refine (rof_any t L A1 k c1 w2 (by omega) HK.out (by omega) (HRD2.out.more hb2.size)).mono ?_
  rintro e w3 ⟨rfl, hb3⟩
  go_wp2_with fail
  refine (of_any t none 0 0 [] w3 (by omega) rfl (by omega) (by intro x hx; cases hx) Rd.nil).mono ?_
  rintro e w4 ⟨rfl, hb4⟩
  go_wp2_with fail
  refine (rof_any t [] none 0 0 w4 (by omega) rfl (by omega) Rd.nil).mono ?_
  rintro e w5 ⟨rfl, hb5⟩
  go_wp2_with fail
  refine (lives_any w5).mono ?_
  rintro e w6 ⟨rfl, hb6⟩
  go_wp2
  go_ret
  exact ⟨rfl, kept_trans (kept_trans (kept_trans (kept_trans (kept_trans hb1 hb2) hb3) hb4) hb5) hb6⟩

/-! ### HashBytes -/
set_option maxRecDepth 100000 in
set_option maxHeartbeats 1000000 in
theorem bytes_walk (s : ByteArray) (xs : List UInt8) (A0 : Option Addr) (n0 c0 : Nat) (l : List Nat) (A : Option Addr) (n c : Nat) (w : World) (hn0 : n0 = xs.length) (hnc0 : n0 ≤ c0) (hA0 : Rd w.heap.size w A0 (u8s xs)) (hnil0 : A0 = none → c0 = 0)
    (hn : n = l.length) (hnc : n ≤ c) (hl : ∀ x ∈ l, x < 18446744073709551616) (hA : Rd w.heap.size w A (u64s l)) (hnil : A = none → c = 0) :
    Calls Try.prog 4 #[.string s, .slice A0 n0 c0, .slice A n c] w fun e w' => e = .returned (.bool true) ∧ Below w.heap.size w w' := by
  have hfew := few_any xs A0 n0 c0 40 w hn0 hnc0 (by omega) hA0 hnil0
  have hnums := fun (w1 : World) (hb : Below w.heap.size w w1) => nums_any l A n c 4 w1 hn hnc (by omega) ((hA.below hb).more hb.size) hnil
  have HFEW := Lib.hid hfew
  have HNUMS := Lib.hid hnums
  have HL := Lib.hid hl
  have HN := Lib.hid hn
  have HN0 := Lib.hid hn0
  clear hfew hnums hl hn hA hnil hn0 hA0 hnil0
  go_enter Try.func4, Try.ntmps4
  go_wp2_with fail
  refine (short_any s 20 w (by omega)).mono ?_
  rintro e w' ⟨t, rfl, ht, rfl⟩
  go_wp2_with fail
  refine (HFEW.out).mono ?_
  rintro e w1 ⟨A1, c1, rfl, hrow1, hb1⟩
  have HK1 := Lib.hid (show min n0 40 = (xs.take 40).length by rw [List.length_take, ← HN0.out, Nat.min_comm])
  obtain ⟨k1, hk1⟩ : ∃ k, k = min n0 40 := ⟨_, rfl⟩
  have hk40 : k1 ≤ 40 := by omega
  rw [← hk1] at HK1 hrow1 ⊢
  have hcc1 : k1 ≤ c1 := by
    rcases hrow1.2 with ⟨h, h0⟩ | ⟨g, cp, _, h, _, _, hle, _⟩
    · omega
    · injection h with _ _ h; omega
  have HR1 := Lib.hid (Rd.of_own hrow1)
  obtain ⟨X, hX⟩ : ∃ X, X = xs.take 40 := ⟨_, rfl⟩
  rw [← hX] at HK1 HR1
  clear hk1 hrow1 hX
  go_wp2_with fail
  refine (HNUMS.out w1 hb1).mono ?_
  rintro e w2 ⟨A2, c2, rfl, hrow2, hb2⟩
  have HK2 := Lib.hid (show min n 4 = (l.take 4).length by rw [List.length_take, ← HN.out, Nat.min_comm])
  obtain ⟨k2, hk2⟩ : ∃ k, k = min n 4 := ⟨_, rfl⟩
  have hk4 : k2 ≤ 4 := by omega
  rw [← hk2] at HK2 hrow2 ⊢
  have HLT := Lib.hid (show ∀ x ∈ l.take 4, x < 18446744073709551616 from fun x hx => HL.out x (List.mem_of_mem_take hx))
  have HR2 := Lib.hid (Rd.of_own hrow2)
  obtain ⟨L, hL⟩ : ∃ L, L = l.take 4 := ⟨_, rfl⟩
  rw [← hL] at HK2 HLT HR2
  have HR12 := Lib.hid ((HR1.out.below hb2).more hb2.size)
  clear hk2 hrow2 hL
  go_wp2_with fail
  refine (bytes_any t X A1 k1 c1 w2 HK1.out hcc1 (by omega) (by omega) HR12.out).mono ?_
  rintro e w3 ⟨rfl, hb3⟩
  have HR13 := Lib.hid ((HR12.out.below hb3).more hb3.size)
  have HR23 := Lib.hid ((HR2.out.below hb3).more hb3.size)
  go_wp2_with fail
  refine (rbytes_any t X A1 k1 c1 w3 (by omega) HK1.out (by omega) HR13.out).mono ?_
  rintro e w4 ⟨rfl, hb4⟩
  have HR24 := Lib.hid ((HR23.out.below hb4).more hb4.size)
  go_wp2_with fail
  refine (secret_any t A2 k2 c2 L w4 (by omega) HK2.out (by omega) HLT.out HR24.out).mono ?_
  rintro e w5 ⟨rfl, hb5⟩
  have HR25 := Lib.hid ((HR24.out.below hb5).more hb5.size)
  go_wp2_with fail
  refine (rsecret_any t L A2 k2 c2 w5 (by omega) HK2.out (by omega) HR25.out).mono ?_
  rintro e w6 ⟨rfl, hb6⟩
  go_wp2_with fail
  refine (lives_any w6).mono ?_
  rintro e w7 ⟨rfl, hb7⟩
  go_wp2
  go_ret
  exact ⟨rfl, kept_trans (kept_trans (kept_trans (kept_trans (kept_trans (kept_trans hb1 hb2) hb3) hb4) hb5) hb6) hb7⟩

/-! ### HashStreams -/
theorem Rd.of_blk {w : World} {g t : Nat} {cs : List Value} (h : Blk w g t cs.toArray) : Rd w.heap.size w (some ⟨g, 0, none⟩) cs := fun _ =>
  ⟨g, 0, rfl, h.lt, fun i u hu => by rw [Nat.zero_add, h.cell i]; simpa using hu⟩
theorem Hsh.stream_take (key n k : Nat) (h : k ≤ n) : (Hsh.stream key n).take k = Hsh.stream key k := by
  unfold Hsh.stream
  rw [← List.map_take, List.take_range, Nat.min_eq_left h]
theorem u8s_take (l : List UInt8) (k : Nat) : (u8s l).take k = u8s (l.take k) := by unfold u8s; rw [List.map_take]
theorem Rd.take {B : Nat} {w : World} {A : Option Addr} {vs : List Value} (h : Rd B w A vs) (k : Nat) : Rd B w A (vs.take k) := fun hp => by
  obtain ⟨b, off, e, hlt, hc⟩ := h (by rw [List.length_take] at hp; omega)
  refine ⟨b, off, e, hlt, fun i u hu => hc i u ?_⟩
  rw [List.getElem?_take] at hu
  split at hu
  · exact hu
  · cases hu

set_option maxRecDepth 100000 in
set_option maxHeartbeats 1000000 in
theorem streams_walk (key : Nat) (z1 z2 : Int) (w : World) (hkey : key < 18446744073709551616) (h1 : -9223372036854775808 ≤ z1) (h2 : z1 ≤ 9223372036854775807) (h3 : -9223372036854775808 ≤ z2) (h4 : z2 ≤ 9223372036854775807) :
    Calls Try.prog 5 #[.int .u64 key, .int .i64 z1, .int .i64 z2] w fun e w' => e = .returned (.bool true) ∧ Below w.heap.size w w' := by
  go_enter Try.func5, Try.ntmps5
  go_wp2_with fail
  refine (around_any z1 41 w h1 h2 (by omega) (by omega)).mono ?_
  rintro e w' ⟨k, hk, rfl, rfl⟩
  go_wp2_with fail
  refine (around_any z2 41 w h3 h4 (by omega) (by omega)).mono ?_
  rintro e w' ⟨k2, hk2, rfl, rfl⟩
  obtain ⟨m, hm⟩ : ∃ m, m = k + k2 := ⟨_, rfl⟩
  have hmi : (k : Int) + (k2 : Int) = (m : Int) := by omega
  have hm81 : m ≤ 81 := by omega
  have hkm : k ≤ m := by omega
  have HTK := Lib.hid (Hsh.stream_take key m k hkm)
  clear hm
  go_wp2_with fail
  refine (stream_any key k w hkey (by omega)).mono ?_
  rintro e w1 ⟨rfl, hblk1, hb1⟩
  have HR1 := Lib.hid (Rd.of_blk hblk1)
  clear hblk1
  go_wp2_with fail
  refine (stream_any key m w1 hkey (by omega)).mono ?_
  rintro e w2 ⟨rfl, hblk2, hb2⟩
  have HR2 := Lib.hid (Rd.of_blk hblk2)
  have HR12 := Lib.hid ((HR1.out.below hb2).more hb2.size)
  clear hblk2 hmi
  go_wp2_with fail
  refine (rstream_any key k w2 (by omega)).mono ?_
  rintro e w3 ⟨A3, c3, rfl, hrow3, hb3⟩
  have HR3 := Lib.hid (Rd.of_own hrow3)
  have HR13 := Lib.hid ((HR12.out.below hb3).more hb3.size)
  have HR23 := Lib.hid ((HR2.out.below hb3).more hb3.size)
  clear hrow3
  have hs1 := same_any (Hsh.stream key k) (Hsh.stream key k) (some ⟨w.heap.size, 0, none⟩) A3 k k k c3 w3 (Hsh.stream_len key k).symm (Hsh.stream_len key k).symm (by omega) (by omega) HR13.out HR3.out
  rw [decide_eq_true rfl] at hs1
  have HS1 := Lib.hid hs1
  clear hs1
  go_wp2_with fail
  refine (HS1.out).mono ?_
  rintro e w4 ⟨rfl, hb4⟩
  have HR14 := Lib.hid ((HR13.out.below hb4).more hb4.size)
  have HR24 := Lib.hid ((HR23.out.below hb4).more hb4.size)
  have hr24 := HR24.out.take k
  rw [u8s_take, HTK.out] at hr24
  have hs2 := same_any (Hsh.stream key k) (Hsh.stream key k) (some ⟨w.heap.size, 0, none⟩) (some ⟨w1.heap.size, 0, none⟩) k k k m w4 (Hsh.stream_len key k).symm (Hsh.stream_len key k).symm (by omega) (by omega) HR14.out hr24
  rw [decide_eq_true rfl] at hs2
  have HS2 := Lib.hid hs2
  have hsl := slice_head 30 (by kernel_rfl) (fun W => by kernel_rfl) (some ⟨w1.heap.size, 0, none⟩) m m k hkm
  clear hs2 hr24
  go_wp2_with fail
  refine (HS2.out).mono ?_
  rintro e w5 ⟨rfl, hb5⟩
  go_wp2_with fail
  refine (lives_any w5).mono ?_
  rintro e w6 ⟨rfl, hb6⟩
  go_wp2
  go_ret
  exact ⟨rfl, kept_trans (kept_trans (kept_trans (kept_trans (kept_trans hb1 hb2) hb3) hb4) hb5) hb6⟩

end Go.Proofs.Ytjpihbigodgfiaa
