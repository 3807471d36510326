/-
  ShareTells: what shares tell, at any number, or that they tell nothing, is the document's.
-/
import Derived.Test.YthnbkbmhlalpaaaShl
import Derived.Deep.DeepCutAuto
namespace Go.Proofs.Ythnbkbmhlalpaaa
open Go.RowKit Go.Maps
attribute [local go_sem ↓] Go.wp_at_zero Go.wp_at_succ

theorem min6 (x : Nat) (j : Nat) (hj : j = min x 6) (W : World) : (Builtin.min_ #[3, 3] 3 #[.int .i64 (x : Int), .int .i64 6]).run Try.prog W = .ok (.int .i64 (j : Int)) W := by
  have e : (if (6 : Int) < (x : Int) then (6 : Int) else (x : Int)) = (j : Int) := by
    split <;> omega
  simp only [Builtin.min_, Builtin.min2, List.foldlM, bind_pure]
  rw [← e]
  rfl
theorem so_none (w : World) : So w.heap.size (w.alloc (.cells #[] 33)) (.slice (some ⟨w.heap.size, 0, none⟩) 0 0) [] :=
  ⟨⟨_, 0, rfl⟩, rfl, .inr ⟨w.heap.size, 0, #[], rfl, Nat.le_refl _, blk_new w 33 #[], Nat.le_refl _, by unfold maxLen; omega, rfl, rfl⟩⟩
/-- Shares behind shares. -/
theorem wpList_appS {ops : Array Oper} {rest : List Oper} {o : Oper} {a : Act} {Q : Exit → Act → World → Prop} {w : World} (hgd : o.guard = none) (s x : Operand)
    (ho : o.op = .call { callee := .builtin .append, args := #[s, x], argTypes := #[27, 27] }) (B : Nat) (L l2 : List Shr) (u : Value) (A2 : Option Addr) (q c2 : Nat) (hg : So B w u L) (hS : St w A2 q c2 l2) (hs : a.eval s = u) (hx : a.eval x = .slice A2 q c2)
    (hk : L.length + q ≤ 1000000000) (hB : B ≤ w.heap.size)
    (h : ∀ z w1, So B w1 z (L ++ l2) → Below B w w1 → wpList Try.prog ops Q rest (a.put o.dst z) w1) : wpList Try.prog ops Q (o :: rest) a w := by
  obtain ⟨i0, hi, hz0, hz1, hz2⟩ := info_parts info_share
  obtain ⟨⟨A, c, rfl⟩, hrow⟩ := hg
  have hlen := hS.len
  rcases A2 with _ | ad
  · have h0 := hS.nil rfl
    have hc := hS.cap
    obtain rfl : c2 = 0 := h0
    obtain rfl : q = 0 := by omega
    obtain rfl : l2 = [] := List.eq_nil_of_length_eq_zero hlen.symm
    refine wpList_append_own_none hgd s x 27 ho B 33 i0 2 Try.underlying27 hi _ _ _ hs hrow hx ?_
    exact h _ w ⟨⟨A, c, by rw [List.append_nil]⟩, by rw [List.append_nil]; exact hrow⟩ (Below.refl _ _)
  · refine wpList_append_own w hgd s x 27 ho B 33 i0 (.agg #[.int .u64 0, .int .u64 0]) 2 16 Try.underlying27 hi hz0 hz1 hz2 rfl (by decide) _ _ _ hs hrow ad q c2 (shs l2) hx (by rw [shs_len, hS.len]) ?_ (shs_one l2) (by unfold maxLen; omega) (by omega) hB ?_
    · intro j v hv
      have hj : j < (shs l2).length := (List.getElem?_eq_some_iff.1 hv).1
      rw [shs_len] at hj
      obtain ⟨b, off, e, _, hc⟩ := hS.rd (by omega)
      injection e with e
      subst e
      rw [Addr.add_lit]
      obtain ⟨t, ht⟩ : ∃ t, l2[j / 2]? = some t := ⟨l2[j / 2]'(by omega), List.getElem?_eq_getElem _⟩
      have h1 := hc _ t ht
      have h2 := shs_at l2 _ t ht
      rcases Nat.mod_two_eq_zero_or_one j with h3 | h3
      · have e : j / 2 * 2 = j := by omega
        rw [e] at h1 h2
        rw [hv] at h2
        rw [h1.1]
        exact h2.1.symm
      · have e : j / 2 * 2 + 1 = j := by omega
        rw [show off + j / 2 * 2 + 1 = off + j by omega] at h1
        rw [e, hv] at h2
        rw [h1.2]
        exact h2.2.symm
    · intro v' w1 hown hgrow _
      have hown2 : w1.ownsRow B 33 2 v' (L ++ l2).length (shs (L ++ l2)) := by
        rw [shs_app, List.length_append, ← hS.len]; exact hown
      obtain ⟨A', c', rfl⟩ : ∃ A' c', v' = .slice A' (L ++ l2).length c' := by
        rcases hown2.2 with ⟨rfl, h0⟩ | ⟨g, cp, _, rfl, _⟩
        · exact ⟨none, 0, by rw [h0]⟩
        · exact ⟨_, cp, rfl⟩
      exact h _ w1 ⟨⟨A', c', rfl⟩, hown2⟩ ((Below.refl B w).grown hgrow hB (fun j e => (hrow.lt j e).1))

/-- One share more, at a step of a drawn region. -/
theorem step_pushS {ops : Array Oper} {o : Oper} {a : Act} {K : Act → World → Prop} {Q : Exit → Act → World → Prop} {E : Prop} {w : World} (hgd : o.guard = none) (s x : Operand)
    (ho : o.op = .call { callee := .builtin .append, args := #[s, x], argTypes := #[27, 27] }) (B p v g : Nat) (L : List Shr) (u : Value) (hg : So B w u L) (hb : Blk w g 33 #[.int .u64 (p : Int), .int .u64 (v : Int)]) (hs : a.eval s = u) (hx : a.eval x = .slice (some ⟨g, 0, none⟩) 1 1)
    (hk : L.length ≤ 1000000000) (hB : B ≤ w.heap.size)
    (h : ∀ z w1, So B w1 z (L ++ [⟨p, v⟩]) → Below B w w1 → K (a.put o.dst z) w1) : if Region.wanted o (yielded ops a.tmps) = true then Oper.wp Try.prog o a w K Q else E := by
  obtain ⟨i0, hi, hz0, hz1, hz2⟩ := info_parts info_share
  obtain ⟨⟨A, c, rfl⟩, hrow⟩ := hg
  refine step_append_lies w hgd s x 27 ho B 33 i0 (.agg #[.int .u64 0, .int .u64 0]) 2 16 Try.underlying27 hi hz0 hz1 hz2 rfl (by decide) _ _ _ hs hrow ⟨g, 0, none⟩ 1 1 [.int .u64 (p : Int), .int .u64 (v : Int)] hx rfl (World.news_of_block hb) (by simp [Value.oneCell']) (by omega) (by unfold maxLen; omega) (by omega) hB _ rfl ?_
  intro g' cap w1 hown hgrow hat hlt
  exact h _ w1 ⟨⟨_, cap, by rw [List.length_append]; rfl⟩, by rw [shs_snoc, List.length_append]; exact hown⟩ ((Below.refl B w).grown hgrow hB (fun j e => (hrow.lt j e).1))

set_option maxRecDepth 100000 in
set_option maxHeartbeats 16000000 in
theorem tells_walk (x n c m2 c2 m3 c3 : Nat) (A A2 A3 : Option Addr) (l : List Shr) (is : List Int) (l3 : List Nat) (w : World) (hx : x < 18446744073709551616) (hA : St w A n c l) (hnb : n ≤ 9223372036854775807) (hI : Iz w A2 m2 is) (hV : In w A3 m3 c3 l3) :
    Calls Try.prog 4 #[.slice A n c, .int .u64 (x : Int), .slice A2 m2 c2, .slice A3 m3 c3] w fun e w' => e = .returned (.bool true) ∧ Below w.heap.size w w' := by
  have HA := Lib.hid hA
  have HI := Lib.hid hI
  have HV := Lib.hid hV
  have HLV := Lib.hid (fun W => lives9_any W)
  have hmb : (m2 : Int) ≤ 9223372036854775807 := by have := hI.2.1; omega
  obtain ⟨k, hk⟩ : ∃ k, k = min n 6 := ⟨_, rfl⟩
  have hkn : k ≤ n := by omega
  have hk6 : k ≤ 6 := by omega
  have hmn := min6 n k hk
  obtain ⟨A5, c5, hsl, hst⟩ := hA.part (lo := 0) (hi := k) (q := k) (by omega) hkn (by omega)
  rw [List.drop_zero] at hst
  have hrun := fun W => (run_till (A := A) (n := n) (c := c) (hi := k) (by have := hA.cap; omega) W).trans (by rw [hsl])
  have hst1 := hst.new (.cells #[] 33)
  have hso := so_none w
  have hb0 : Below w.heap.size w (w.alloc (.cells #[] 33)) := (Below.refl _ _).alloc (Nat.le_refl _) _
  have HSTL := Lib.hid hst1.len
  have HSM := Lib.hid hst1.small
  have HST := Lib.hid hst1
  have HSO := Lib.hid hso
  have HB0 := Lib.hid hb0
  have hsz : w.heap.size ≤ (w.alloc (.cells #[] 33)).heap.size := hb0.size
  clear hA hI hV hsl hst hst1 hso hb0 hk
  go_enter Try.func4, Try.ntmps4
  go_wp2_with (at_builtin; refine wpList_appS rfl _ _ rfl w.heap.size [] _ _ A5 k c5 HSO.out HST.out rfl rfl (by simp; omega) hsz ?_; intro z1 w1 hz1 hb1; have HZ1 := Lib.hid hz1; have HB1 := Lib.hid (HB0.out.trans hb1); clear hz1 hb1)
  have hz1 := HZ1.out
  rw [List.nil_append] at hz1
  obtain ⟨A9, c9, rfl, h9⟩ := hz1.st HSM.out
  rw [← HSTL.out] at h9 ⊢
  have HF1 := Lib.hid h9
  have hkk : Below w1.heap.size w1 w1 := Below.refl _ _
  clear hz1 h9 HZ1 HST HSO HB0 hsz hrun hmn
  go_loopw [10, 11] (fun o i wr => ∃ (j : Nat) (S : List Shr), i = .int .i64 (j : Int) ∧ j ≤ m2 ∧ j ≤ m3 ∧ j ≤ 6 ∧ S.length = j ∧ Sm64 S ∧ So w1.heap.size wr o S ∧ Below w1.heap.size w1 wr) (fun _ i _ => 6 - (intOf i).toNat)
  case atStart => exact ⟨0, [], rfl, Nat.zero_le _, Nat.zero_le _, Nat.zero_le _, rfl, (by intro s hs; cases hs), So.nil _ _, hkk⟩
  case round =>
    obtain ⟨j, S, rfl, hj2, hj3, hj6, hSl, hSs, hso, hb⟩ := hrel
    have HSL := Lib.hid hSl
    have HSS := Lib.hid hSs
    have HSO := Lib.hid hso
    have HB := Lib.hid hb
    have hsz := hb.size
    clear hkk hSl hSs hso hb
    by_cases hc : j < m2 ∧ j < m3 ∧ j < 6
    · obtain ⟨h1, h2, h3⟩ := hc
      obtain ⟨z, hz⟩ : ∃ z, is[j]? = some z := ⟨is[j]'(by have := HI.out.1; omega), List.getElem?_eq_getElem _⟩
      have hzb := HI.out.2.2.1 z (List.mem_of_getElem? hz)
      obtain ⟨b, off, rfl, hbb, hc⟩ := HI.out.2.2.2 (by rw [ints_len, ← HI.out.1]; omega)
      obtain ⟨b3, off3, rfl, hbb3, hc3⟩ := HV.out.2.2.2.1.num (k := j) (by rw [← HV.out.1]; exact h2)
      have hvl : l3[j]?.getD 0 < 18446744073709551616 := get_big HV.out.2.2.1 j
      obtain ⟨v, hv⟩ : ∃ v, v = l3[j]?.getD 0 := ⟨_, rfl⟩
      rw [← hv] at hc3 hvl
      have hbw : Below w.heap.size w wr := HB1.out.trans (HB.out.mono HB1.out.size)
      have r1 := (hbw.cell (p := ⟨b, off + j, none⟩) hbb).trans (hc j (.int .i64 z) (by unfold ints; rw [List.getElem?_map, hz]; rfl))
      have r2 := (hbw.cell (p := ⟨b3, off3 + j, none⟩) hbb3).trans hc3
      have har := Lib.hid (fun W => around_any z 9 W hzb.1 hzb.2 (by omega) (by omega))
      have q0 := And.intro r1 r2
      have q0d : wr.drew.cell? ⟨b, off + j, none⟩ = some (.int .i64 z) ∧ wr.drew.cell? ⟨b3, off3 + j, none⟩ = some (.int .u64 (v : Int)) := q0
      have q1 : (j : Int) < (m2 : Int) := by omega
      have q2 : (j : Int) < (m3 : Int) := by omega
      have q3 : (0 : Int) ≤ (j : Int) := by omega
      clear hc hc3 hz hzb r1 r2 hv
      go_wp2_with fail
      have hlb : b < wr.heap.size := Nat.lt_of_lt_of_le hbb hbw.size
      have hlb3 : b3 < wr.heap.size := Nat.lt_of_lt_of_le hbb3 hbw.size
      have HSK := Lib.hid (show S.length ≤ 1000000000 by rw [HSL.out]; omega)
      clear hbw
      go_region_held3 (fun w' : World => w'.cell? ⟨b, off + j, none⟩ = some (.int .i64 z) ∧ w'.cell? ⟨b3, off3 + j, none⟩ = some (.int .u64 (v : Int)))
        ((first | with_reducible exact q0 | with_reducible exact q0d | with_reducible exact qA | with_reducible exact qAd | with_reducible exact qB))
        (first
          | (go_at_call 11; ((refine (har.out _).mono ?_); rintro e9 w9 ⟨r, hr, rfl, rfl⟩; have hwr : IntKind.u64.wrap (r : Int) = (r : Int) := (by rw [IntKind.wrap_u64]; omega); have qA : (wr.alloc (.cells #[.int .u64 (r : Int), .int .u64 (v : Int)] 33)).cell? ⟨b, off + j, none⟩ = some (.int .i64 z) ∧ (wr.alloc (.cells #[.int .u64 (r : Int), .int .u64 (v : Int)] 33)).cell? ⟨b3, off3 + j, none⟩ = some (.int .u64 (v : Int)) := ⟨cell_alloc_l (.cells #[.int .u64 (r : Int), .int .u64 (v : Int)] 33) q0.1, cell_alloc_l (.cells #[.int .u64 (r : Int), .int .u64 (v : Int)] 33) q0.2⟩; have qAd : (wr.alloc (.cells #[.int .u64 (r : Int), .int .u64 (v : Int)] 33)).drew.cell? ⟨b, off + j, none⟩ = some (.int .i64 z) ∧ (wr.alloc (.cells #[.int .u64 (r : Int), .int .u64 (v : Int)] 33)).drew.cell? ⟨b3, off3 + j, none⟩ = some (.int .u64 (v : Int)) := qA; have hsn : w1.heap.size ≤ (wr.alloc (.cells #[.int .u64 (r : Int), .int .u64 (v : Int)] 33)).drew.heap.size := Nat.le_trans hsz (by show wr.heap.size ≤ (wr.alloc _).heap.size; simp); have HSN : Hid (So w1.heap.size (wr.alloc (.cells #[.int .u64 (r : Int), .int .u64 (v : Int)] 33)).drew _ S) := Lib.hid (HSO.out.alloc _); have HBL : Hid (Blk (wr.alloc (.cells #[.int .u64 (r : Int), .int .u64 (v : Int)] 33)).drew wr.heap.size 33 #[.int .u64 (r : Int), .int .u64 (v : Int)]) := Lib.hid (blk_new wr _ _)))
          | (refine step_pushS rfl (.tmp 45) (.tmp 57) rfl w1.heap.size r v wr.heap.size S _ HSN.out HBL.out rfl rfl HSK.out hsn ?_; intro z9 w9 hz9 hb9; have HZ9 := Lib.hid hz9; have HB9 := Lib.hid (HB.out.trans ((((Below.refl w1.heap.size wr).alloc hsz (.cells #[.int .u64 (r : Int), .int .u64 (v : Int)] 33)).trans (below_of_drew hb9)))); have qB : w9.cell? ⟨b, off + j, none⟩ = some (.int .i64 z) ∧ w9.cell? ⟨b3, off3 + j, none⟩ = some (.int .u64 (v : Int)) := And.intro (((below_of_drew hb9).cell (p := ⟨b, off + j, none⟩) (Nat.lt_of_lt_of_le hbb HB1.out.size)).trans qA.1) (((below_of_drew hb9).cell (p := ⟨b3, off3 + j, none⟩) (Nat.lt_of_lt_of_le hbb3 HB1.out.size)).trans qA.2); clear hz9 hb9))
      have hr9 : r < 18446744073709551616 := by omega
      have HL9 := Lib.hid (show (S ++ [(⟨r, v⟩ : Shr)]).length = j + 1 by rw [List.length_append, HSL.out]; rfl)
      have HM9 := Lib.hid (show Sm64 (S ++ [(⟨r, v⟩ : Shr)]) from fun s hs => by
        rcases List.mem_append.1 hs with h | h
        · exact HSS.out s h
        · obtain rfl := List.mem_singleton.1 h
          exact ⟨hr9, hvl⟩)
      clear q0 q0d qA qAd qB HSN HBL hsn HSK hwr hr har hr9 hvl
      go_wp2
      go_roundw
      case rel => exact ⟨j + 1, S ++ [⟨r, v⟩], by go_num, h1, h2, h3, HL9.out, HM9.out, HZ9.out, HB9.out⟩
      case measure => simp [intOf]; omega
    · have hc2 : ∃ b1 b2 b3 : Bool, decide (j < m2) = b1 ∧ decide (j < m3) = b2 ∧ decide ((j : Int) < 6) = b3 ∧ (b1 = false ∨ (b1 = true ∧ b2 = false) ∨ (b1 = true ∧ b2 = true ∧ b3 = false)) := by
        refine ⟨_, _, _, rfl, rfl, rfl, ?_⟩
        simp only [decide_eq_false_iff_not, decide_eq_true_eq]
        omega
      obtain ⟨b1, b2, b3, B1, B2, B3, hc2⟩ := hc2
      obtain ⟨Az, cz, rfl, hz⟩ := HSO.out.st HSS.out
      rw [HSL.out] at hz ⊢
      have hkw := kept_trans HB1.out HB.out
      have hX := blk_new wr 27 #[.slice A9 k c9, .slice Az j cz, .slice none 0 0]
      have hK := kept_trans hkw ((Below.refl _ wr).alloc (Nat.le_refl _) (.cells #[.slice A9 k c9, .slice Az j cz, .slice none 0 0] 27))
      have hF := (HF1.out.below HB.out).new (.cells #[.slice A9 k c9, .slice Az j cz, .slice none 0 0] 27)
      have hZ := hz.new (.cells #[.slice A9 k c9, .slice Az j cz, .slice none 0 0] 27)
      have hN : St (wr.alloc (.cells #[.slice A9 k c9, .slice Az j cz, .slice none 0 0] 27)) none 0 0 [] := ⟨rfl, Sd.nil _ _ _, Nat.le_refl _, fun _ => rfl, fun s hs => (by cases hs)⟩
      obtain ⟨wx, hwx⟩ : ∃ wx, wx = wr.alloc (.cells #[.slice A9 k c9, .slice Az j cz, .slice none 0 0] 27) := ⟨_, rfl⟩
      have HWX := Lib.hid hwx
      clear hwx hc hkw hz HSS HSL HB HB1 hsz HSO
      rcases hc2 with rfl | ⟨rfl, rfl⟩ | ⟨rfl, rfl, rfl⟩
      all_goals
        go_wp2_with fail
        rw [← HWX.out] at hX hK hF hZ hN ⊢
        obtain ⟨X, hXe⟩ : ∃ X, X = wr.heap.size := ⟨_, rfl⟩
        rw [← hXe] at hX ⊢
        have HX := Lib.hid hX
        have HF := Lib.hid hF
        have HZ := Lib.hid hZ
        have HN := Lib.hid hN
        have HK := Lib.hid hK
        clear hX hF hZ hN hK hXe HWX B1 B2 B3
        have hkk : Below wx.heap.size wx wx := Below.refl _ _
        go_loopw [13] (fun o wq => ∃ i : Nat, i ≤ 3 ∧ o = .int .i64 (i : Int) ∧ Below wx.heap.size wx wq) (fun o _ => 3 - (intOf o).toNat)
        case atStart => exact ⟨0, Nat.zero_le _, rfl, hkk⟩
        case round =>
          obtain ⟨i, hi, rfl, hbr⟩ := hrel
          have HBR := Lib.hid hbr
          clear hkk hbr
          by_cases hlt : i < 3
          · have hi3 : i = 0 ∨ i = 1 ∨ i = 2 := by omega
            obtain ⟨Ak, nk, ck, lk, hce, hst, hnk⟩ : ∃ Ak nk ck lk, wx.cell? ⟨X, i, none⟩ = some (.slice Ak nk ck) ∧ St wx Ak nk ck lk ∧ nk ≤ 1000 := by
              rcases hi3 with rfl | rfl | rfl
              · exact ⟨_, _, _, _, HX.out.cell 0, HF.out, by omega⟩
              · exact ⟨_, _, _, _, HX.out.cell 1, HZ.out, by omega⟩
              · exact ⟨_, _, _, _, HX.out.cell 2, HN.out, by omega⟩
            have HST := Lib.hid hst
            have HCE := Lib.hid hce
            have hXl := HX.out.lt
            obtain ⟨r, z, ht⟩ : ∃ r z, Sr.tell lk x = (r, z) := ⟨_, _, rfl⟩
            obtain ⟨r2, z2, ht2⟩ : ∃ r z, Sr.tell lk 0 = (r, z) := ⟨_, _, rfl⟩
            have HT := Lib.hid ht
            have HT2 := Lib.hid ht2
            clear hi3 hce hst ht ht2
            have q1 : (i : Int) < 3 := by omega
            have q2 : (0 : Int) ≤ (i : Int) := by omega
            have qc := (HBR.out.cell (p := ⟨X, i, none⟩) hXl).trans HCE.out
            go_wp2_with fail
            refine (at_any Ak nk ck x r z lk _ (HST.out.below HBR.out) hnk hx HT.out).mono ?_
            rintro e wa ⟨rfl, hba⟩
            have HKA := Lib.hid (kept_trans HBR.out hba)
            replace qc := (HKA.out.cell (p := ⟨X, i, none⟩) hXl).trans HCE.out
            clear hba HBR
            go_wp2_with fail
            refine (rat9_any Ak nk ck x r z lk _ (HST.out.below HKA.out) hnk HT.out).mono ?_
            rintro e wb ⟨rfl, hbb⟩
            have HKB := Lib.hid (kept_trans HKA.out hbb)
            replace qc := (HKB.out.cell (p := ⟨X, i, none⟩) hXl).trans HCE.out
            clear hbb HKA
            go_wp2_with fail
            refine (join_any Ak nk ck r2 z2 lk _ (HST.out.below HKB.out) hnk HT2.out).mono ?_
            rintro e wc ⟨rfl, hbc⟩
            have HKC := Lib.hid (kept_trans HKB.out hbc)
            replace qc := (HKC.out.cell (p := ⟨X, i, none⟩) hXl).trans HCE.out
            clear hbc HKB
            go_wp2_with fail
            refine (rat9_any Ak nk ck 0 r2 z2 lk _ (HST.out.below HKC.out) hnk HT2.out).mono ?_
            rintro e wd ⟨rfl, hbd⟩
            have HKD := Lib.hid (kept_trans HKC.out hbd)
            clear hbd HKC qc
            go_wp2
            go_roundw
            case rel => exact ⟨i + 1, hlt, by go_num, HKD.out⟩
            case measure => simp [intOf]; omega
          · obtain rfl : i = 3 := by omega
            go_wp2_with fail
            refine (HLV.out _).mono ?_
            rintro e w7 ⟨rfl, hb7⟩
            have K7 := Lib.hid (kept_trans HK.out (kept_trans HBR.out hb7))
            clear hb7
            go_wp2
            go_ret
            exact ⟨rfl, K7.out⟩

end Go.Proofs.Ythnbkbmhlalpaaa
