/-
  Package seal: the closure that tells the pad, bytes that are masked by it, and the tag; what was there is left as it was. Keys of 64 bits, up to 2^20 bytes.
-/
import Derived.Test.YtfbakfdakmndhaaLawD
import Derived.Test.YtfbakfdakmndhaaSea
import Derived.Deep.RegionHeld3
namespace Go.Proofs.Ytfbakfdakmndhaa
open Go.RowKit

theorem Sl.below_new {w w' : World} {o : Obj} (h : Below (w.alloc o).heap.size (w.alloc o) w') : Below w.heap.size w w' :=
  ((Below.refl _ w).alloc (Nat.le_refl _) o).trans (h.mono (by simp))
theorem Sl.rd_blk {w : World} {g t : Nat} {cs : Array Value} {l : List Nat} (h : Blk w g t cs) (hc : cs = (u64s l).toArray) : Rd w.heap.size w (some ⟨g, 0, none⟩) (u64s l) := by
  subst hc
  exact Rd.of_blk h

theorem Sl.cell_set {w : World} {B j b o : Nat} {u v : Value} (hne : b ≠ B) (h : w.cell? ⟨b, o, none⟩ = some v) : (w.setCell ⟨B, j, none⟩ u).cell? ⟨b, o, none⟩ = some v :=
  (World.cell?_setCell_other _ _ _ _ (fun e => hne (by injection e with e1; exact e1.symm))).trans h

theorem secret_at (k B : Nat) (w : World) (hk : k < 18446744073709551616) (hB : Blk w B 22 #[.int .u64 (k : Int)]) :
    Calls Try.prog 27 #[.string ⟨#[115, 101, 97, 108]⟩, .slice (some ⟨B, 0, none⟩) 1 1] w fun e w' => e = .returned (.int .u64 (Sl.key k : Nat)) ∧ Below w.heap.size w w' :=
  secret_any ⟨#[115, 101, 97, 108]⟩ _ 1 1 [k] w (by decide) rfl (by omega) (by
    intro x hx
    rw [List.mem_singleton.1 hx]
    exact hk) (Sl.rd_blk hB rfl)

/-- What the closure has caught: the pad of a key. -/
def Pad (w : World) (p k n : Nat) : Prop :=
  ∃ g, p < w.heap.size ∧ g < w.heap.size ∧ w.cell? ⟨p, 0, none⟩ = some (.slice (some ⟨g, 0, none⟩) n n) ∧ Blk w g 5 (u8s (Sl.pad k n)).toArray
theorem Pad.below {w w' : World} {p k n : Nat} (h : Pad w p k n) (hb : Below w.heap.size w w') : Pad w' p k n := by
  obtain ⟨g, h1, h2, h3, h4⟩ := h
  have hs := hb.size
  exact ⟨g, by omega, by omega, (hb.cell (p := ⟨p, 0, none⟩) h1).trans h3, h4.below hb h2⟩

set_option maxRecDepth 100000 in
set_option maxHeartbeats 1000000 in
theorem pad_any (k n : Nat) (w : World) (hk : k < 18446744073709551616) (hn : n ≤ 1048576) :
    Calls Try.prog 20 #[.int .u64 k, .int .i64 n] w fun e w' => (∃ p, e = .returned (.func (.func 28) #[] #[.pointer (some ⟨p, 0, none⟩)]) ∧ Pad w' p k n) ∧ Below w.heap.size w w' := by
  have HK := Lib.hid (fun W B => secret_at k B W hk)
  have hs := Hsh.secret_range Sl.sealLabel [k]
  have HS := Lib.hid (fun W => stream_any (Sl.key k) n W (by unfold Sl.key; omega) hn)
  have HP : Hid (Hsh.stream (Sl.key k) n = Sl.pad k n) := Lib.hid rfl
  obtain ⟨q, hq⟩ : ∃ q, q = Sl.key k := ⟨_, rfl⟩
  rw [← hq] at HK HS HP
  clear hs hq
  go_enter Try.func20, Try.ntmps20
  go_wp2_with fail
  refine (HK.out _ w.heap.size (blk_new w 22 _)).mono ?_
  rintro e w1 ⟨rfl, hb1'⟩
  have hb1 := Sl.below_new hb1'
  clear hb1'
  go_wp2_with fail
  refine (HS.out _).mono ?_
  rintro e w2 ⟨rfl, hg2, hb2⟩
  have hk2 := kept_trans hb1 hb2
  have hs2 := hg2.lt
  have HG2 := Lib.hid hg2
  clear hb1 hg2
  go_wp2
  go_ret
  refine ⟨⟨w2.heap.size, rfl, w1.heap.size, by simp, by simp; omega, ?_, ?_⟩, hk2.trans ((Below.refl _ w2).alloc (Nat.le_refl _) _ |>.mono hk2.size)⟩
  · exact (blk_new w2 23 _).cell 0
  · rw [← HP.out]
    exact blk_alloc HG2.out _

theorem pad_get (k n i : Nat) (h : i < n) : (u8s (Sl.pad k n)).toArray[i]? = some (.int .u8 ((Hsh.streamU (Sl.key k) i).toNat : Int)) := by
  simp [u8s, Sl.pad, Hsh.stream, h]

set_option maxRecDepth 100000 in
theorem ask_any (p k n i : Nat) (w : World) (hp : Pad w p k n) (hi : i < n) :
    Calls Try.prog 28 #[.int .i64 i, .pointer (some ⟨p, 0, none⟩)] w fun e w' => e = .returned (.int .u8 ((Hsh.streamU (Sl.key k) i).toNat : Int)) ∧ Below w.heap.size w w' := by
  obtain ⟨g, _, _, hc, hb⟩ := hp
  have hcell : w.cell? ⟨g, i, none⟩ = some (.int .u8 ((Hsh.streamU (Sl.key k) i).toNat : Int)) := by rw [hb.cell, pad_get k n i hi]
  have q0 : (0 : Int) ≤ (i : Int) := by omega
  have q1 : (i : Int) < (n : Int) := by omega
  obtain ⟨x, hx⟩ : ∃ x, x = (Hsh.streamU (Sl.key k) i).toNat := ⟨_, rfl⟩
  rw [← hx] at hcell ⊢
  clear hx hb
  go_enter Try.func28, Try.ntmps28
  go_wp2
  go_ret
  exact ⟨rfl, Below.refl _ _⟩

/-! ### bytes that are filled in one by one -/
/-- What a row of n bytes holds when the first j of xs are there. -/
def sta (xs : List UInt8) (n j : Nat) : Array Value := ((List.range n).map fun i => if i < j then Value.int .u8 (((xs[i]?.getD 0).toNat : Nat) : Int) else .int .u8 0).toArray
theorem sta_size (xs : List UInt8) (n j : Nat) : (sta xs n j).size = n := by simp [sta]
theorem sta_get (xs : List UInt8) (n j i : Nat) (h : i < n) : (sta xs n j)[i]? = some (if i < j then Value.int .u8 (((xs[i]?.getD 0).toNat : Nat) : Int) else .int .u8 0) := by
  simp [sta, h]
theorem sta_zero (xs : List UInt8) (n : Nat) : madeCells #[.int .u8 0] (n * 1) = sta xs n 0 := by
  apply Array.ext_getElem?
  intro i
  rcases Nat.lt_or_ge i n with h | h
  · rw [sta_get xs n 0 i h, if_neg (by omega)]
    simp [madeCells, h, Nat.mod_one]
  · rw [Array.getElem?_eq_none (xs := madeCells #[.int .u8 0] (n * 1)) (by simp [madeCells]; exact h), Array.getElem?_eq_none (by rw [sta_size]; exact h)]
theorem sta_set (xs : List UInt8) (n j : Nat) (hj : j < n) (x : UInt8) (hx : xs[j]? = some x) : (sta xs n j).setIfInBounds j (.int .u8 (x.toNat : Int)) = sta xs n (j + 1) := by
  apply Array.ext_getElem?
  intro i
  rw [Array.getElem?_setIfInBounds]
  rcases Nat.lt_or_ge i n with h | h
  · rw [sta_get xs n (j + 1) i h]
    by_cases e : j = i
    · subst e
      rw [if_pos rfl, if_pos (by rw [sta_size]; exact h), if_pos (by omega), hx]
      rfl
    · rw [if_neg e, sta_get xs n j i h]
      by_cases h1 : i < j
      · rw [if_pos h1, if_pos (by omega)]
      · rw [if_neg h1, if_neg (by omega)]
  · rw [Array.getElem?_eq_none (by rw [sta_size]; exact h), if_neg (by omega), Array.getElem?_eq_none (by rw [sta_size]; exact h)]
theorem sta_full (xs : List UInt8) (n : Nat) (hn : n = xs.length) : sta xs n n = (u8s xs).toArray := by
  apply Array.ext_getElem?
  intro i
  rcases Nat.lt_or_ge i n with h | h
  · rw [sta_get xs n n i h, if_pos h]
    simp [u8s, List.getElem?_eq_getElem (show i < xs.length by omega)]
  · rw [Array.getElem?_eq_none (by rw [sta_size]; exact h), Array.getElem?_eq_none (by simp [u8s]; omega)]
theorem make_sta (xs : List UInt8) (n : Nat) (hn : n ≤ 1048576) (W : World) :
    (Instr.makeSlice 23 (.int .i64 (n : Int)) (.int .i64 (n : Int))).run Try.prog W = .ok (.slice (some ⟨W.heap.size, 0, none⟩) n n) (W.alloc (.cells (sta xs n 0) 5)) := by
  obtain ⟨i0, hi, hz0, hz1, hz2⟩ := info_parts info_u8
  have h := run_make (P := Try.prog) W 23 5 i0 (.int .u8 0) Try.underlying23 hi hz0 .i64 .i64 (n : Int) (n : Int) (by omega) (by omega) (by rw [hz2]; omega) (by omega)
  rw [hz1] at h
  rw [h]
  simp only [Int.toNat_natCast]
  rw [show (Value.int IntKind.u8 0).cells = #[.int .u8 0] from rfl, sta_zero xs]

theorem u8_xor_is (a b : UInt8) : bits .xor .u8 ((a.toNat : Nat) : Int) ((b.toNat : Nat) : Int) = (((a ^^^ b).toNat : Nat) : Int) := by
  rw [u8_xor_nat _ _ a.toNat_lt b.toNat_lt, UInt8.toNat_xor]

set_option maxRecDepth 100000 in
set_option maxHeartbeats 2000000 in
theorem masked_any (l : List UInt8) (A : Option Addr) (n c p k : Nat) (w : World) (hn : n = l.length) (hb : n ≤ 1048576) (hA : Rd w.heap.size w A (u8s l)) (hp : Pad w p k n) :
    Calls Try.prog 19 #[.slice A n c, .func (.func 28) #[] #[.pointer (some ⟨p, 0, none⟩)]] w fun e w' =>
      e = .returned (.slice (some ⟨w.heap.size, 0, none⟩) n n) ∧ Blk w' w.heap.size 5 (u8s (Sl.mask k l)).toArray ∧ Below w.heap.size w w' := by
  have hmk := make_sta (Sl.mask k l) n hb
  have HF := Lib.hid (sta_full (Sl.mask k l) n (by rw [Sl.mask_len, hn]))
  obtain ⟨B, hB⟩ : ∃ B, B = w.heap.size := ⟨_, rfl⟩
  have hb0 := blk_new w 5 (sta (Sl.mask k l) n 0)
  have hk0 : Below w.heap.size w (w.alloc (.cells (sta (Sl.mask k l) n 0) 5)) := (Below.refl _ w).alloc (Nat.le_refl _) _
  have hA0 : Rd w.heap.size (w.alloc (.cells (sta (Sl.mask k l) n 0) 5)) A (u8s l) := hA.below hk0
  have hp0 : Pad (w.alloc (.cells (sta (Sl.mask k l) n 0) 5)) p k n := hp.below hk0
  obtain ⟨w0, hw0⟩ : ∃ w0, w0 = w.alloc (.cells (sta (Sl.mask k l) n 0) 5) := ⟨_, rfl⟩
  have hs0 : w0.heap.size = B + 1 := by rw [hw0, hB]; simp
  have hpB : ∃ g, p < B ∧ g < B ∧ w0.cell? ⟨p, 0, none⟩ = some (.slice (some ⟨g, 0, none⟩) n n) ∧ Blk w0 g 5 (u8s (Sl.pad k n)).toArray := by
    obtain ⟨g, h1, h2, h3, h4⟩ := hp
    rw [hB, hw0]
    exact ⟨g, h1, h2, (hk0.cell (p := ⟨p, 0, none⟩) h1).trans h3, h4.below hk0 h2⟩
  have HN := Lib.hid hn
  have HBE := Lib.hid hB
  have HWE := Lib.hid hw0
  clear hn hB hw0
  go_enter Try.func19, Try.ntmps19
  go_wp2
  rw [← HWE.out] at hb0 hk0 hA0 ⊢
  rw [← HBE.out] at hb0 hk0 hA0 ⊢
  have HA := Lib.hid hA0
  have HB0 := Lib.hid hb0
  have HP := Lib.hid hpB
  clear HWE hmk hA hA0 hb0 hp hp0 hpB
  go_loopw [12] (fun i wr => ∃ j : Nat, j ≤ n ∧ i = .int .i64 (j : Int) ∧ Blk wr B 5 (sta (Sl.mask k l) n j) ∧ Below B w0 wr) (fun i _ => n - (intOf i).toNat)
  case atStart => exact ⟨0, Nat.zero_le _, rfl, HB0.out, Below.refl _ _⟩
  case round =>
    obtain ⟨j, hj, rfl, hblk, hbr⟩ := hrel
    by_cases hlt : j < n
    · have hjl : j < l.length := by rw [← HN.out]; exact hlt
      obtain ⟨b, off, rfl, hbB, hcl⟩ := byte_cell (HA.out.below hbr) hjl
      have hm := Sl.mask_get k l j hjl
      have hx := u8_xor_is l[j] (Hsh.streamU (Sl.key k) j)
      have HM := Lib.hid (sta_set (Sl.mask k l) n j hlt _ hm)
      have hpr : Pad wr p k n := by
        obtain ⟨g, h1, h2, h3, h4⟩ := HP.out
        have := hblk.lt
        exact ⟨g, by omega, by omega, (hbr.cell (p := ⟨p, 0, none⟩) h1).trans h3, h4.below hbr h2⟩
      have HQ := Lib.hid (fun W (h : Pad W p k n) => ask_any p k n j W h hlt)
      obtain ⟨y, hy⟩ : ∃ y, y = (Hsh.streamU (Sl.key k) j).toNat := ⟨_, rfl⟩
      obtain ⟨x, hx'⟩ : ∃ x, x = (l[j]).toNat := ⟨_, rfl⟩
      obtain ⟨z, hz⟩ : ∃ z, z = (l[j] ^^^ Hsh.streamU (Sl.key k) j).toNat := ⟨_, rfl⟩
      rw [← hy] at hx HQ
      rw [← hx'] at hx hcl
      rw [← hz] at hx HM
      clear hy hx' hz hm hjl
      have HBL := Lib.hid hblk
      have hlB := hblk.lt
      have c0 := hcl
      have c1 : wr.drew.cell? ⟨b, off + j, none⟩ = some (.int .u8 (x : Int)) := c0
      have q0 : (0 : Int) ≤ (j : Int) := by omega
      have q1 : (j : Int) < (n : Int) := by omega
      have hold : ∃ old, (sta (Sl.mask k l) n j)[j]? = some old := ⟨_, sta_get _ n j j hlt⟩
      obtain ⟨old, hold⟩ := hold
      have HO := Lib.hid hold
      have HPR := Lib.hid hpr
      clear hcl hblk hold hpr
      go_wp2_with fail
      go_region_held3 (fun w' : World => w'.cell? ⟨b, off + j, none⟩ = some (.int .u8 (x : Int)))
        ((first | with_reducible exact c0 | with_reducible exact c1 | with_reducible exact c2 | with_reducible exact c3))
        (first
          | (go_at_call 28; have q := HQ.out wr.drew HPR.out; ((with_reducible refine q.mono ?_); clear q; rintro e w1 ⟨rfl, hb1'⟩; have hb1 : Below wr.heap.size wr w1 := below_of_drew hb1'; clear hb1'; have c2 := (hb1.cell (p := ⟨b, off + j, none⟩) (by show b < wr.heap.size; omega)).trans c0; have hB1 := HBL.out.below hb1 hlB; have r0 := (hB1.cell j).trans HO.out; have f0 := hB1.frozen j; have c3 : (w1.setCell ⟨B, j, none⟩ (.int .u8 (z : Int))).cell? ⟨b, off + j, none⟩ = some (.int .u8 (x : Int)) := Sl.cell_set (by omega) c2)))
      have hg : w1.grownBy (w1.setCell ⟨B, j, none⟩ (.int .u8 (z : Int))) (some B) := only_set (only_refl _ _) j _
      have hb2 : Below B w0 (w1.setCell ⟨B, j, none⟩ (.int .u8 (z : Int))) := (hbr.trans (hb1.mono (by omega))).trans (below_only hg (Nat.le_refl _) (by have := hb1.size; omega))
      have hB2 : Blk (w1.setCell ⟨B, j, none⟩ (.int .u8 (z : Int))) B 5 (sta (Sl.mask k l) n (j + 1)) := by
        rw [← HM.out]
        exact hB1.set_ j _
      have HB2 := Lib.hid hB2
      have HK2 := Lib.hid hb2
      clear hb1 hB1 r0 f0 c0 c1 c2 c3 hg hB2 hb2 hbr
      go_wp2
      go_roundw
      case rel => exact ⟨j + 1, hlt, by go_num, HB2.out, HK2.out⟩
      case measure => simp [intOf]; omega
    · obtain rfl : j = n := by omega
      have HBL := Lib.hid hblk
      clear hblk
      go_wp2
      go_ret
      obtain rfl := HBE.out
      refine ⟨rfl, ?_, hk0.trans hbr⟩
      rw [← HF.out]
      exact HBL.out

/-! ### the tag -/
theorem of3_at (k x y B : Nat) (w : World) (hk : k < 18446744073709551616) (hx : x < 18446744073709551616) (hy : y < 18446744073709551616) (hB : Blk w B 22 #[.int .u64 (k : Int), .int .u64 (x : Int), .int .u64 (y : Int)]) :
    Calls Try.prog 30 #[.string ⟨#[109, 97, 99]⟩, .slice (some ⟨B, 0, none⟩) 3 3] w fun e w' => e = .returned (.int .u64 (Hsh.of Sl.macLabel [k, x, y] : Nat)) ∧ Below w.heap.size w w' :=
  of_any ⟨#[109, 97, 99]⟩ _ 3 3 [k, x, y] w (by decide) rfl (by omega) (by
    intro z hz
    simp only [List.mem_cons, List.not_mem_nil, or_false] at hz
    rcases hz with rfl | rfl | rfl <;> assumption) (Sl.rd_blk hB rfl)

theorem tagOf_get (x j : Nat) (hj : j < 8) : (Sl.tagOf x)[j]? = some (Sl.tagU x j) := by
  unfold Sl.tagOf
  rw [List.getElem?_map, List.getElem?_range hj]
  rfl

set_option maxRecDepth 100000 in
set_option maxHeartbeats 2000000 in
theorem tag_any (a b : List UInt8) (A A' : Option Addr) (n c n' c' k : Nat) (w : World) (hk : k < 18446744073709551616) (hn : n = a.length) (hnc : n ≤ c) (hb : n ≤ 1099511627776) (hn' : n' = b.length) (hnc' : n' ≤ c') (hb' : n' ≤ 1099511627776)
    (hA : Rd w.heap.size w A (u8s a)) (hA' : Rd w.heap.size w A' (u8s b)) :
    Calls Try.prog 22 #[.int .u64 k, .slice A n c, .slice A' n' c'] w fun e w' =>
      (∃ g, e = .returned (.slice (some ⟨g, 0, none⟩) 8 8) ∧ w.heap.size ≤ g ∧ Blk w' g 5 (u8s (Sl.tag k a b)).toArray) ∧ Below w.heap.size w w' := by
  have HA' := Lib.hid hA'
  have HX := Lib.hid (bytes_any ⟨#[97, 108, 111, 110, 103]⟩ a A n c w hn hnc hb (by decide) hA)
  have HY := Lib.hid (fun W (h : Rd W.heap.size W A' (u8s b)) => bytes_any ⟨#[116, 101, 120, 116]⟩ b A' n' c' W hn' hnc' hb' (by decide) h)
  have hx : Hsh.bytes (⟨#[97, 108, 111, 110, 103]⟩ : ByteArray).data.toList a = Sl.alongs a := rfl
  have hy : Hsh.bytes (⟨#[116, 101, 120, 116]⟩ : ByteArray).data.toList b = Sl.texts b := rfl
  have hxl := Sl.alongs_lt a
  have hyl := Sl.texts_lt b
  have hs : Hsh.of Sl.macLabel [k, Sl.alongs a, Sl.texts b] = Sl.sum k a b := rfl
  have ht : Sl.tag k a b = Sl.tagOf (Sl.sum k a b) := rfl
  have hsl := Sl.sum_lt k a b
  have HO := Lib.hid (fun W B h => of3_at k (Sl.alongs a) (Sl.texts b) B W hk (by omega) (by omega) h)
  rw [hx] at HX
  rw [hy] at HY
  rw [hs] at HO
  rw [ht]
  obtain ⟨x, hx'⟩ : ∃ x, x = Sl.alongs a := ⟨_, rfl⟩
  obtain ⟨y, hy'⟩ : ∃ y, y = Sl.texts b := ⟨_, rfl⟩
  obtain ⟨s, hs'⟩ : ∃ s, s = Sl.sum k a b := ⟨_, rfl⟩
  rw [← hx'] at HX HO hxl
  rw [← hy'] at HY HO hyl
  rw [← hs'] at HO hsl ⊢
  have HMK := Lib.hid (make_sta (Sl.tagOf s) 8 (by omega))
  clear hx hy hs ht hx' hy' hs' hA hA' hn hn'
  go_enter Try.func22, Try.ntmps22
  go_wp2_with fail
  refine (HX.out).mono ?_
  rintro e w1 ⟨rfl, hb1⟩
  have hA1 := (HA'.out.below hb1).more hb1.size
  go_wp2_with fail
  refine (HY.out _ hA1).mono ?_
  rintro e w2 ⟨rfl, hb2⟩
  have hk2 := kept_trans hb1 hb2
  clear hb1 hb2 hA1
  go_wp2_with fail
  refine (HO.out _ w2.heap.size (blk_new w2 22 _)).mono ?_
  rintro e w3 ⟨rfl, hb3'⟩
  have hk3 := kept_trans hk2 (Sl.below_new hb3')
  have hmk := HMK.out w3
  obtain ⟨B, hB⟩ : ∃ B, B = w3.heap.size := ⟨_, rfl⟩
  have hB0 := blk_new w3 5 (sta (Sl.tagOf s) 8 0)
  have hk4 : Below w.heap.size w (w3.alloc (.cells (sta (Sl.tagOf s) 8 0) 5)) := kept_trans hk3 ((Below.refl _ w3).alloc (Nat.le_refl _) _)
  have hwB : w.heap.size ≤ B := by rw [hB]; exact hk3.size
  obtain ⟨w4, hw4⟩ : ∃ w4, w4 = w3.alloc (.cells (sta (Sl.tagOf s) 8 0) 5) := ⟨_, rfl⟩
  have HB := Lib.hid hB
  have HW4 := Lib.hid hw4
  have hmk' : (Instr.makeSlice 23 (.int .i64 8) (.int .i64 8)).run Try.prog w3 = .ok (.slice (some ⟨w3.heap.size, 0, none⟩) 8 8) (w3.alloc (.cells (sta (Sl.tagOf s) 8 0) 5)) := hmk
  clear hB hw4 hb3' hk2 hk3 hmk HMK
  go_wp2
  rw [← HW4.out] at hB0 hk4 ⊢
  rw [← HB.out] at hB0 ⊢
  have HB0 := Lib.hid hB0
  clear hB0 hmk' HW4
  go_loopw [20] (fun i wr => ∃ j : Nat, j ≤ 8 ∧ i = .int .i64 (j : Int) ∧ Blk wr B 5 (sta (Sl.tagOf s) 8 j) ∧ w4.grownBy wr (some B)) (fun i _ => 8 - (intOf i).toNat)
  case atStart => exact ⟨0, Nat.zero_le _, rfl, HB0.out, only_refl _ _⟩
  case round =>
    obtain ⟨j, hj, rfl, hblk, hgr⟩ := hrel
    by_cases hlt : j < 8
    · have hcell := hblk.cell j
      rw [sta_get _ 8 j j hlt] at hcell
      have hfr := hblk.frozen j
      generalize (if j < j then Value.int IntKind.u8 ((((Sl.tagOf s)[j]?.getD 0).toNat : Nat) : Int) else .int .u8 0) = old at hcell
      have HBL := Lib.hid hblk
      have hm := sta_set (Sl.tagOf s) 8 j hlt _ (tagOf_get s j hlt)
      rw [Sl.tagU_val] at hm
      have hbv : ((s / 256 ^ j % 256 : Nat) : Int) = (s : Int) / 2 ^ (8 * j) % 256 := byte_at s j
      rw [hbv] at hm
      have HM := Lib.hid hm
      clear hblk hm hbv
      go_wp2
      go_roundw
      case rel =>
        refine ⟨j + 1, hlt, by go_num, ?_, only_set hgr _ _⟩
        rw [← HM.out]
        exact HBL.out.set_ j _
      case measure => simp [intOf]; omega
    · obtain rfl : j = 8 := by omega
      have HBL := Lib.hid hblk
      clear hblk
      go_wp2
      go_ret
      refine ⟨⟨B, rfl, hwB, ?_⟩, hk4.trans (below_only hgr hwB hk4.size)⟩
      rw [← sta_full (Sl.tagOf s) 8 (Sl.tagOf_len s).symm]
      exact HBL.out

end Go.Proofs.Ytfbakfdakmndhaa
