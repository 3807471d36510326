/-
  Package poly's split: it appends the roots of a product of x less some numbers, no two the same, each once. For up to 300000 roots.
-/
import Derived.Test.YtalljoneflepiaaRtp
import Derived.Test.YtalljoneflepiaaLng
import Derived.Laws.AppendOwn
namespace Go.Proofs.Ytalljoneflepiaa
open Go.RowKit

theorem own_kept {w w' : World} {lo n : Nat} {v : Value} {xs : List Value} (h : w.ownsRow lo 23 1 v n xs) (hb : ∀ k, some k = v.ownBlock → k < w.heap.size → w'.heap[k]? = w.heap[k]?) : w'.ownsRow lo 23 1 v n xs := by
  refine ⟨h.1, ?_⟩
  rcases h.2 with h1 | ⟨g, cap, cur, rfl, h2, h3, h4⟩
  · exact .inl h1
  · refine .inr ⟨g, cap, cur, rfl, h2, ?_, h4⟩
    rw [hb g rfl (Array.getElem?_eq_some_iff.1 h3).1]
    exact h3
theorem own_ge {w : World} {lo n k : Nat} {v : Value} {xs : List Value} (h : w.ownsRow lo 23 1 v n xs) (hk : some k = v.ownBlock) : lo ≤ k ∧ k < w.heap.size := by
  rcases h.2 with ⟨rfl, _⟩ | ⟨g, cap, cur, rfl, h2, h3, _⟩
  · cases hk
  · have : k = g := by simpa [Value.ownBlock] using hk
    subst this
    exact ⟨h2, (Array.getElem?_eq_some_iff.1 h3).1⟩

/-- A variable at Br that holds a list of its own, from block lo on. -/
def RBox (w : World) (Br lo : Nat) (v : Value) (old : List Nat) : Prop :=
  w.cell? ⟨Br, 0, none⟩ = some v ∧ w.frozen? ⟨Br, 0, none⟩ = false ∧ (∃ A c, v = .slice A old.length c) ∧ w.ownsRow lo 23 1 v old.length (u64s old)
theorem RBox.kept {w w' : World} {Br lo : Nat} {v : Value} {old : List Nat} (h : RBox w Br lo v old) (hb : ∀ k, k < w.heap.size → (k = Br ∨ some k = v.ownBlock) → w'.heap[k]? = w.heap[k]?) : RBox w' Br lo v old := by
  have hlt := World.block_lt_of_cell? w _ h.1
  exact ⟨(World.cell?_of_block (a := ⟨Br, 0, none⟩) (hb Br hlt (.inl rfl))).trans h.1, (World.frozen?_of_block (a := ⟨Br, 0, none⟩) (hb Br hlt (.inl rfl))).trans h.2.1, h.2.2.1, own_kept h.2.2.2 fun k hk hl => hb k hl (.inr hk)⟩
theorem RBox.below {w w' : World} {Br lo : Nat} {v : Value} {old : List Nat} (h : RBox w Br lo v old) (hb : Below w.heap.size w w') : RBox w' Br lo v old := h.kept fun k hk _ => hb.block k hk
theorem Pt.fx {w w' : World} {A : Option Addr} {n c : Nat} {l : List Nat} {X : Nat → Prop} (h : Pt w A n c l) (hf : Fx w.heap.size X w w') (hx : ∀ bl off, A = some ⟨bl, off, none⟩ → ¬ X bl) : Pt w' A n c l := by
  refine ⟨h.1, fun hp => ?_, h.2.2⟩
  obtain ⟨b, o, e, h1, h2⟩ := h.2.1 hp
  have := hf.size
  exact ⟨b, o, e, by omega, fun i u hu => (hf.cell (p := ⟨b, o + i, none⟩) h1 (hx b o e)).trans (h2 i u hu)⟩

theorem push_run {w : World} {Br lo : Nat} {v : Value} {old : List Nat} (x : Nat) (h : RBox w Br lo v old) (hlo : lo ≤ w.heap.size) (hBr : Br < lo) (hlen : old.length + 1 ≤ 10000000) :
    ∃ g c w1, (Builtin.append_ #[22, 22] 22 #[v, .slice (some ⟨w.heap.size, 0, none⟩) 1 1]).run Try.prog (w.alloc (.cells #[.int .u64 (x : Int)] 23)).drew = .ok (.slice (some ⟨g, 0, none⟩) (old.length + 1) c) w1 ∧
      w1.ownsRow lo 23 1 (.slice (some ⟨g, 0, none⟩) (old.length + 1) c) (old.length + 1) (u64s (old ++ [x])) ∧ (w.alloc (.cells #[.int .u64 (x : Int)] 23)).grownBy w1 v.ownBlock ∧ w1.cell? ⟨Br, 0, none⟩ = some v ∧ w1.frozen? ⟨Br, 0, none⟩ = false ∧ (some g = v.ownBlock ∨ w.heap.size < g) := by
  obtain ⟨i0, hi, hz0, hz1, hz2⟩ := info_parts info_u64
  have hown : (w.alloc (.cells #[.int .u64 (x : Int)] 23)).ownsRow lo 23 1 v old.length (u64s old) := h.2.2.2.alloc _
  have hnews : ∀ j u, [Value.int .u64 (x : Int)][j]? = some u → (w.alloc (.cells #[.int .u64 (x : Int)] 23)).drew.cell? ((⟨w.heap.size, 0, none⟩ : Addr).add j) = some u := fun j u hu => by
    match j with
    | 0 =>
      injection hu with hu
      subst hu
      exact (cell_new_l w (.int .u64 (x : Int)) 23).1
    | j + 1 => cases hu
  have hsz : (w.alloc (.cells #[.int .u64 (x : Int)] 23)).drew.heap.size = w.heap.size + 1 := by show (w.alloc _).heap.size = _; simp
  obtain ⟨v', w', hr, h2, h3, h4⟩ := run_append_own (P := Try.prog) (w := (w.alloc (.cells #[.int .u64 (x : Int)] 23)).drew) lo 22 22 23 i0 (.int .u64 0) 1 8 Try.underlying22 hi hz0 hz1 hz2 rfl (by decide) v old.length (u64s old) hown
    ⟨w.heap.size, 0, none⟩ 1 1 [.int .u64 (x : Int)] rfl hnews (by simp [Value.oneCell']) (by simp [maxLen]; omega) (by omega) (by omega)
  have h3 := only_of_drew h3
  rcases h2.2 with ⟨rfl, e0⟩ | ⟨g, cap, cur, rfl, h5⟩
  · omega
  · have hlt := World.block_lt_of_cell? w _ h.1
    have hnb : some Br ≠ v.ownBlock := fun e => by have := (own_ge h.2.2.2 e).1; omega
    have hbl := h3.block Br (by simp; exact Nat.lt_succ_of_lt hlt) hnb
    have hgo : some g = v.ownBlock ∨ w.heap.size < g := by
      rcases hown.2 with ⟨rfl, e0⟩ | ⟨g0, cap0, cur0, rfl, b1, b2, b3, b4, b5, b6⟩
      · have hr2 := run_append_nil (P := Try.prog) (w := (w.alloc (.cells #[.int .u64 (x : Int)] 23)).drew) 22 22 23 i0 (.int .u64 0) Try.underlying22 hi hz0 ⟨w.heap.size, 0, none⟩ 1 1 [.int .u64 (x : Int)] (by rw [hz1]; rfl) hnews (by omega) (by omega) (by rw [hz2]; omega)
        rw [hr2, hsz] at hr
        injection hr with hv _
        injection hv with hv _ _
        injection hv with hv
        injection hv with hv
        right; omega
      · by_cases hroom : old.length + 1 ≤ cap0
        · have hr2 := run_append_room (P := Try.prog) (w := (w.alloc (.cells #[.int .u64 (x : Int)] 23)).drew) 22 22 23 i0 Try.underlying22 hi g0 old.length cap0 cur0 b2 ⟨w.heap.size, 0, none⟩ 1 1 [.int .u64 (x : Int)] (by rw [hz1]; rfl) hnews (by simp [Value.oneCell']) hroom (by rw [hz1, b5]; simp; omega)
          rw [hr2] at hr
          injection hr with hv _
          injection hv with hv _ _
          injection hv with hv
          injection hv with hv
          left; rw [hv]; rfl
        · have hr2 := run_append_grow (P := Try.prog) (w := (w.alloc (.cells #[.int .u64 (x : Int)] 23)).drew) 22 22 23 i0 (.int .u64 0) Try.underlying22 hi hz0 ⟨g0, 0, none⟩ old.length cap0 (u64s old) (by rw [hz1]; exact hown.1) (hown.cells (g := g0) rfl) ⟨w.heap.size, 0, none⟩ 1 1 [.int .u64 (x : Int)] (by rw [hz1]; rfl) hnews (by omega) (by omega) (by rw [hz2]; exact growslice_fits (by omega) (by omega))
          rw [hr2, hsz] at hr
          injection hr with hv _
          injection hv with hv _ _
          injection hv with hv
          injection hv with hv
          right; omega
    refine ⟨g, cap, w', hr, by rw [u64s_snoc]; exact h2, h3, (World.cell?_of_block (a := ⟨Br, 0, none⟩) hbl).trans (cell_alloc_l _ h.1), (World.frozen?_of_block (a := ⟨Br, 0, none⟩) hbl).trans (frozen_alloc_l _ h.1 h.2.1), hgo⟩

theorem push_wp {w : World} {Br lo : Nat} {v : Value} {old : List Nat} (x : Nat) (h : RBox w Br lo v old) (hlo : lo ≤ w.heap.size) (hBr : Br < lo) (hlen : old.length + 1 ≤ 10000000) {o : Oper} {a : Act} {K : Act → World → Prop} {Q : Exit → Act → World → Prop} (s y : Operand)
    (ho : o.op = .call { callee := .builtin .append, args := #[s, y], argTypes := #[22, 22] }) (ht : o.type = 22) (hs : a.eval s = v) (hy : a.eval y = .slice (some ⟨w.heap.size, 0, none⟩) 1 1)
    (hk : ∀ g c w1, w1.ownsRow lo 23 1 (.slice (some ⟨g, 0, none⟩) (old.length + 1) c) (old.length + 1) (u64s (old ++ [x])) → (w.alloc (.cells #[.int .u64 (x : Int)] 23)).grownBy w1 v.ownBlock → w1.cell? ⟨Br, 0, none⟩ = some v → w1.frozen? ⟨Br, 0, none⟩ = false → (some g = v.ownBlock ∨ w.heap.size < g) →
      K (a.put o.dst (.slice (some ⟨g, 0, none⟩) (old.length + 1) c)) w1) : o.wp Try.prog a (w.alloc (.cells #[.int .u64 (x : Int)] 23)).drew K Q := by
  obtain ⟨g, c, w1, hr, h1, h2, h3, h4, h5⟩ := push_run x h hlo hBr hlen
  unfold Oper.wp execOp
  simp only [ho, ht, resolve, invoke, builtin, Sem.run_bind, Sem.run_pure, Result.andThen_ok, List.map_toArray, List.map_cons, List.map_nil, hs, hy, hr]
  exact hk g c w1 h1 h2 h3 h4 h5

/-- What split does. -/
def Splitted (F : Pl) (Br lo : Nat) (v : Value) (old : List Nat) (w : World) (e : Ending) (w' : World) : Prop :=
  (∃ r, e = .returned r) ∧ (∃ v' rs, RBox w' Br lo v' (old ++ rs) ∧ Pl.Rof F rs ∧ ∀ k, some k = v'.ownBlock → some k = v.ownBlock ∨ w.heap.size ≤ k) ∧ Fx w.heap.size (fun k => k = Br ∨ some k = v.ownBlock) w w'

theorem len_of_dg {l : List Nat} {d : Nat} (ht : Pl.Tr l) (h : Pl.Dg (Pl.co l) d) : l.length = d + 1 := by
  rcases Nat.eq_zero_or_pos l.length with h0 | h0
  · exact absurd (ht.len_zero.1 h0) h.ne
  · obtain ⟨k, hk⟩ : ∃ k, l.length = k + 1 := ⟨l.length - 1, by omega⟩
    rw [hk, (ht.dg hk).uniq h]

set_option maxRecDepth 100000 in
set_option maxHeartbeats 2000000 in
theorem split_const (Br Bs lo k : Nat) (F : Pl) (A : Option Addr) (cf : Nat) (v : Value) (old : List Nat) (w : World) (hd : Pl.Dg F 0) (hr : RBox w Br lo v old) :
    Calls Try.prog 61 #[.slice A 1 cf, .int .u64 (k : Int), .pointer (some ⟨Br, 0, none⟩), .pointer (some ⟨Bs, 0, none⟩)] w (Splitted F Br lo v old w) := by
  have HR := Lib.hid hr
  clear hr
  go_enter Try.func61, Try.ntmps61
  go_wp2
  refine bodyPost_ret (results_none rfl _ _ _) rfl ?_
  exact ⟨⟨_, rfl⟩, ⟨v, [], by rw [List.append_nil]; exact HR.out, Pl.Rof.const hd, fun k h => .inl h⟩, Fx.refl _ _ _⟩

set_option maxRecDepth 100000 in
set_option maxHeartbeats 2000000 in
theorem split_line (Br Bs lo k : Nat) (F : Pl) (A : Option Addr) (cf : Nat) (l : List Nat) (v : Value) (old : List Nat) (w : World) (hF : Pl.Is l F) (hp : Pt w A 2 cf l) (hd : Pl.Dg F 1) (h1 : F 1 = 1) (hBr : Br < lo) (hlo : lo ≤ w.heap.size) (hlen : old.length + 1 ≤ 1000000) (hr : RBox w Br lo v old) :
    Calls Try.prog 61 #[.slice A 2 cf, .int .u64 (k : Int), .pointer (some ⟨Br, 0, none⟩), .pointer (some ⟨Bs, 0, none⟩)] w (Splitted F Br lo v old w) := by
  obtain ⟨bl, off, rfl, hlt, hcl⟩ := hp.2.1 (by rw [u64s_len, ← hp.1]; omega)
  have c0 := hcl 0 _ (u64s_at (by rw [← hp.1]; omega))
  rw [Nat.add_zero] at c0
  have hx := get_big hF.1.1.big 0
  have hrof : Pl.Rof F [Fld.sub 0 (l[0]?.getD 0)] := Pl.Rof.line hd.2 h1 (by rw [← hF.2]; rfl)
  obtain ⟨x, hxe⟩ : ∃ x, x = l[0]?.getD 0 := ⟨_, rfl⟩
  rw [← hxe] at c0 hx hrof
  have hneg := fun W => neg_any x W hx
  obtain ⟨u, hu⟩ : ∃ u, u = Fld.sub 0 x := ⟨_, rfl⟩
  rw [← hu] at hrof
  simp only [← hu] at hneg
  obtain ⟨vA, vc, rfl⟩ := hr.2.2.1
  have hcr := hr.1
  have HR := Lib.hid hr
  have HN := Lib.hid hneg
  have HRO := Lib.hid hrof
  have hl := hlen
  clear hr hneg hcl hp hF hd h1 hxe hu hrof hlen
  have done : ∀ r g c w1, w1.cell? ⟨Br, 0, none⟩ = some (.slice vA old.length vc) → w1.frozen? ⟨Br, 0, none⟩ = false → w1.ownsRow lo 23 1 (.slice (some ⟨g, 0, none⟩) (old.length + 1) c) (old.length + 1) (u64s (old ++ [u])) →
      (w.alloc (.cells #[.int .u64 (u : Int)] 23)).grownBy w1 (Value.slice vA old.length vc).ownBlock → (some g = (Value.slice vA old.length vc).ownBlock ∨ w.heap.size < g) → Splitted F Br lo (.slice vA old.length vc) old w (.returned r) (w1.setCell ⟨Br, 0, none⟩ (.slice (some ⟨g, 0, none⟩) (old.length + 1) c)) := by
    intro r g c w1 hc1 hf1 hown hgr hgo
    have hlen2 : (old ++ [u]).length = old.length + 1 := by simp
    have hgl := own_ge (k := g) hown rfl
    have hs1 := hgr.size
    rw [World.size_alloc] at hs1
    have hgB : g ≠ Br := by omega
    have hgg : ∀ k, some k = (Value.slice (some ⟨g, 0, none⟩) (old.length + 1) c).ownBlock → k = g := fun k hk => by simpa [Value.ownBlock] using hk
    have hown1 := own_kept (w' := w1.setCell ⟨Br, 0, none⟩ (.slice (some ⟨g, 0, none⟩) (old.length + 1) c)) hown (fun k hk _ => by rw [hgg k hk]; exact Below.heap_setCell _ _ _ _ hgB)
    refine ⟨⟨r, rfl⟩, ⟨.slice (some ⟨g, 0, none⟩) (old.length + 1) c, [u], ⟨World.cell?_setCell_same' _ _ _ (by rw [hc1]; rfl), by rw [World.frozen?_setCell]; exact hf1, ⟨_, _, by rw [hlen2]⟩, by rw [hlen2]; exact hown1⟩, HRO.out, fun k hk => ?_⟩, Fx.set_ ?_ (.inr (.inl rfl)) _⟩
    · rw [hgg k hk]
      exact hgo.imp id (fun h => by omega)
    · refine Fx.trans (Fx.of_below ((Below.refl w.heap.size w).alloc (Nat.le_refl _) _) (fun k hk _ => hk)) (Fx.of_grown hgr fun k hk hx => ⟨by rw [World.size_alloc]; omega, fun e => hx (.inr e)⟩)
  have DONE := Lib.hid done
  clear done
  have hcra := cell_alloc_l (.cells #[.int .u64 (u : Int)] 23) hcr
  go_enter Try.func61, Try.ntmps61
  go_wp2
  refine wp_region_any (by kernel_rfl) ?_
  (try (change wpAny _ _ _ _ _ _ _ (World.drew _)))
  refine wpAny_take (i := 1) (v := ?_) rfl (by kernel_rfl) (by kernel_rfl) (by kernel_rfl) (fun _ _ _ h => h) (Or.inl ⟨by rfl, ?_⟩) ?_
  rotate_left
  · (intro w; go_simp; try (with_reducible rfl))
  try simp only [Act.put, List.getElem_toArray, List.getElem_cons_succ, List.getElem_cons_zero, List.setIfInBounds_toArray, List.set_cons_zero, List.set_cons_succ]
  refine wpAny_take (i := 2) (v := ?_) rfl (by kernel_rfl) (by kernel_rfl) (by kernel_rfl) (fun _ _ _ h => h) (Or.inl ⟨by rfl, ?_⟩) ?_
  rotate_left
  · (intro w; go_simp; try (with_reducible rfl))
  try simp only [Act.put, List.getElem_toArray, List.getElem_cons_succ, List.getElem_cons_zero, List.setIfInBounds_toArray, List.set_cons_zero, List.set_cons_succ]
  refine wpAny_ready (rs := [0, 3]) (by kernel_rfl) (by simp) ?_
  refine AllReady.cons rfl (fun K hK => ?_) (AllReady.cons rfl (fun K hK => ?_) AllReady.nil)
  · go_simp
    refine hK _ _ ?_
    clear hK K
    try simp only [Act.put, List.getElem_toArray, List.getElem_cons_succ, List.getElem_cons_zero, List.setIfInBounds_toArray, List.set_cons_zero, List.set_cons_succ]
    refine wpAny_ready (rs := [3]) (by kernel_rfl) (by simp) ?_
    refine AllReady.cons rfl (fun K hK => ?_) AllReady.nil
    go_simp
    refine hK _ _ ?_
    clear hK K
    try simp only [Act.put, List.getElem_toArray, List.getElem_cons_succ, List.getElem_cons_zero, List.setIfInBounds_toArray, List.set_cons_zero, List.set_cons_succ]
    refine wpAny_ready (rs := [4]) (by kernel_rfl) (by simp) ?_
    refine AllReady.cons rfl (fun K hK => ?_) AllReady.nil
    go_simp
    go_wp2_with (go_at_call 62; refine (HN.out _).mono ?_; rintro e w' ⟨rfl, rfl⟩)
    try simp only [Act.put, List.getElem_toArray, List.getElem_cons_succ, List.getElem_cons_zero, List.setIfInBounds_toArray, List.set_cons_zero, List.set_cons_succ]
    refine wpAny_ready (rs := [5]) (by kernel_rfl) (by simp) ?_
    refine AllReady.cons rfl (fun K hK => ?_) AllReady.nil
    go_simp
    refine hK _ _ ?_
    clear hK K
    try simp only [Act.put, List.getElem_toArray, List.getElem_cons_succ, List.getElem_cons_zero, List.setIfInBounds_toArray, List.set_cons_zero, List.set_cons_succ]
    refine wpAny_ready (rs := [6]) (by kernel_rfl) (by simp) ?_
    refine AllReady.cons rfl (fun K hK => ?_) AllReady.nil
    rw [if_pos (by rfl)]
    refine push_wp u HR.out hlo hBr (by omega) (.tmp 15) (.tmp 20) rfl rfl rfl rfl (fun g c w1 hown hgr hc1 hf1 hgo => hK _ _ ?_)
    clear hK K
    have HO := Lib.hid hown
    have HG := Lib.hid hgr
    have HGO := Lib.hid hgo
    clear hown hgr hgo
    try simp only [Act.put, List.getElem_toArray, List.getElem_cons_succ, List.getElem_cons_zero, List.setIfInBounds_toArray, List.set_cons_zero, List.set_cons_succ]
    refine wpAny_ready (rs := [7]) (by kernel_rfl) (by simp) ?_
    refine AllReady.cons rfl (fun K hK => ?_) AllReady.nil
    go_simp
    refine hK _ _ ?_
    clear hK K
    refine wpAny_done (by kernel_rfl) ?_ _
    go_wp2
    refine bodyPost_ret (results_none rfl _ _ _) rfl ?_
    exact DONE.out _ g c w1 hc1 hf1 HO.out HG.out HGO.out
  · go_simp
    refine hK _ _ ?_
    clear hK K
    try simp only [Act.put, List.getElem_toArray, List.getElem_cons_succ, List.getElem_cons_zero, List.setIfInBounds_toArray, List.set_cons_zero, List.set_cons_succ]
    refine wpAny_ready (rs := [0, 4]) (by kernel_rfl) (by simp) ?_
    refine AllReady.cons rfl (fun K hK => ?_) (AllReady.cons rfl (fun K hK => ?_) AllReady.nil)
    · go_simp
      refine hK _ _ ?_
      clear hK K
      try simp only [Act.put, List.getElem_toArray, List.getElem_cons_succ, List.getElem_cons_zero, List.setIfInBounds_toArray, List.set_cons_zero, List.set_cons_succ]
      refine wpAny_ready (rs := [4]) (by kernel_rfl) (by simp) ?_
      refine AllReady.cons rfl (fun K hK => ?_) AllReady.nil
      go_simp
      go_wp2_with (go_at_call 62; refine (HN.out _).mono ?_; rintro e w' ⟨rfl, rfl⟩)
      try simp only [Act.put, List.getElem_toArray, List.getElem_cons_succ, List.getElem_cons_zero, List.setIfInBounds_toArray, List.set_cons_zero, List.set_cons_succ]
      refine wpAny_ready (rs := [5]) (by kernel_rfl) (by simp) ?_
      refine AllReady.cons rfl (fun K hK => ?_) AllReady.nil
      go_simp
      refine hK _ _ ?_
      clear hK K
      try simp only [Act.put, List.getElem_toArray, List.getElem_cons_succ, List.getElem_cons_zero, List.setIfInBounds_toArray, List.set_cons_zero, List.set_cons_succ]
      refine wpAny_ready (rs := [6]) (by kernel_rfl) (by simp) ?_
      refine AllReady.cons rfl (fun K hK => ?_) AllReady.nil
      rw [if_pos (by rfl)]
      refine push_wp u HR.out hlo hBr (by omega) (.tmp 15) (.tmp 20) rfl rfl rfl rfl (fun g c w1 hown hgr hc1 hf1 hgo => hK _ _ ?_)
      clear hK K
      have HO := Lib.hid hown
      have HG := Lib.hid hgr
      have HGO := Lib.hid hgo
      clear hown hgr hgo
      try simp only [Act.put, List.getElem_toArray, List.getElem_cons_succ, List.getElem_cons_zero, List.setIfInBounds_toArray, List.set_cons_zero, List.set_cons_succ]
      refine wpAny_ready (rs := [7]) (by kernel_rfl) (by simp) ?_
      refine AllReady.cons rfl (fun K hK => ?_) AllReady.nil
      go_simp
      refine hK _ _ ?_
      clear hK K
      refine wpAny_done (by kernel_rfl) ?_ _
      go_wp2
      refine bodyPost_ret (results_none rfl _ _ _) rfl ?_
      exact DONE.out _ g c w1 hc1 hf1 HO.out HG.out HGO.out
    · go_simp
      go_wp2_with (go_at_call 62; refine (HN.out _).mono ?_; rintro e w' ⟨rfl, rfl⟩)
      try simp only [Act.put, List.getElem_toArray, List.getElem_cons_succ, List.getElem_cons_zero, List.setIfInBounds_toArray, List.set_cons_zero, List.set_cons_succ]
      refine wpAny_ready (rs := [0, 5]) (by kernel_rfl) (by simp) ?_
      refine AllReady.cons rfl (fun K hK => ?_) (AllReady.cons rfl (fun K hK => ?_) AllReady.nil)
      · go_simp
        refine hK _ _ ?_
        clear hK K
        try simp only [Act.put, List.getElem_toArray, List.getElem_cons_succ, List.getElem_cons_zero, List.setIfInBounds_toArray, List.set_cons_zero, List.set_cons_succ]
        refine wpAny_ready (rs := [5]) (by kernel_rfl) (by simp) ?_
        refine AllReady.cons rfl (fun K hK => ?_) AllReady.nil
        go_simp
        refine hK _ _ ?_
        clear hK K
        try simp only [Act.put, List.getElem_toArray, List.getElem_cons_succ, List.getElem_cons_zero, List.setIfInBounds_toArray, List.set_cons_zero, List.set_cons_succ]
        refine wpAny_ready (rs := [6]) (by kernel_rfl) (by simp) ?_
        refine AllReady.cons rfl (fun K hK => ?_) AllReady.nil
        rw [if_pos (by rfl)]
        refine push_wp u HR.out hlo hBr (by omega) (.tmp 15) (.tmp 20) rfl rfl rfl rfl (fun g c w1 hown hgr hc1 hf1 hgo => hK _ _ ?_)
        clear hK K
        have HO := Lib.hid hown
        have HG := Lib.hid hgr
        have HGO := Lib.hid hgo
        clear hown hgr hgo
        try simp only [Act.put, List.getElem_toArray, List.getElem_cons_succ, List.getElem_cons_zero, List.setIfInBounds_toArray, List.set_cons_zero, List.set_cons_succ]
        refine wpAny_ready (rs := [7]) (by kernel_rfl) (by simp) ?_
        refine AllReady.cons rfl (fun K hK => ?_) AllReady.nil
        go_simp
        refine hK _ _ ?_
        clear hK K
        refine wpAny_done (by kernel_rfl) ?_ _
        go_wp2
        refine bodyPost_ret (results_none rfl _ _ _) rfl ?_
        exact DONE.out _ g c w1 hc1 hf1 HO.out HG.out HGO.out
      · go_simp
        refine hK _ _ ?_
        clear hK K
        try simp only [Act.put, List.getElem_toArray, List.getElem_cons_succ, List.getElem_cons_zero, List.setIfInBounds_toArray, List.set_cons_zero, List.set_cons_succ]
        refine wpAny_ready (rs := [0]) (by kernel_rfl) (by simp) ?_
        refine AllReady.cons rfl (fun K hK => ?_) AllReady.nil
        go_simp
        refine hK _ _ ?_
        clear hK K
        try simp only [Act.put, List.getElem_toArray, List.getElem_cons_succ, List.getElem_cons_zero, List.setIfInBounds_toArray, List.set_cons_zero, List.set_cons_succ]
        refine wpAny_ready (rs := [6]) (by kernel_rfl) (by simp) ?_
        refine AllReady.cons rfl (fun K hK => ?_) AllReady.nil
        rw [if_pos (by rfl)]
        refine push_wp u HR.out hlo hBr (by omega) (.tmp 15) (.tmp 20) rfl rfl rfl rfl (fun g c w1 hown hgr hc1 hf1 hgo => hK _ _ ?_)
        clear hK K
        have HO := Lib.hid hown
        have HG := Lib.hid hgr
        have HGO := Lib.hid hgo
        clear hown hgr hgo
        try simp only [Act.put, List.getElem_toArray, List.getElem_cons_succ, List.getElem_cons_zero, List.setIfInBounds_toArray, List.set_cons_zero, List.set_cons_succ]
        refine wpAny_ready (rs := [7]) (by kernel_rfl) (by simp) ?_
        refine AllReady.cons rfl (fun K hK => ?_) AllReady.nil
        go_simp
        refine hK _ _ ?_
        clear hK K
        refine wpAny_done (by kernel_rfl) ?_ _
        go_wp2
        refine bodyPost_ret (results_none rfl _ _ _) rfl ?_
        exact DONE.out _ g c w1 hc1 hf1 HO.out HG.out HGO.out
end Go.Proofs.Ytalljoneflepiaa
