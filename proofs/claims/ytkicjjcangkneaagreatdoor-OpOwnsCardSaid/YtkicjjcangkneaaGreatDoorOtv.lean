/-
  What an operation that the reference made is: small, and one that Put and Get bear. Pure.
-/
import Derived.Test.YtkicjjcangkneaaGreatDoorOtt
namespace Go.Proofs.YtkicjjcangkneaaGreatDoor
open Go.RowKit
namespace Ot
/-- Few items, short texts. -/
structure Tiny (o : Er) : Prop where
  ok : Ok o
  past : o.past.length ≤ 20
  path : o.path.length ≤ 20
  pathB : ∀ n ∈ o.path, n.boxes.length ≤ 20
  body : o.body.length ≤ 300
  refs : o.refs.length ≤ 20
  guards : o.guards.length ≤ 20
  boxes : o.boxes.length ≤ 20
  hist : o.hist.length ≤ 20
  histB : ∀ s ∈ o.hist, s.body.length ≤ 300
theorem flat_most {α : Type} {wr : α → List UInt8} {m : Nat} : ∀ (l : List α), (∀ x ∈ l, (wr x).length ≤ m) → (l.flatMap wr).length ≤ l.length * m
  | [], _ => by simp
  | x :: l, h => by
    have h1 := flat_most l fun y hy => h y (List.mem_cons_of_mem _ hy)
    have h2 := h x (List.mem_cons_self ..)
    rw [List.flatMap_cons, List.length_append, List.length_cons, Nat.succ_mul]
    omega
theorem wEach_len {α : Type} {wr : α → List UInt8} {l : List α} (m : Nat) (h : ∀ x ∈ l, (wr x).length ≤ m) (n : Nat) (hn : l.length ≤ n) (hn2 : n ≤ 1000) : (wEach wr l).length ≤ 10 + n * m := by
  unfold wEach
  rw [List.length_append]
  have h1 := Pk.nInt_len (l.length : Nat) (by omega) (by omega)
  have h2 := flat_most l h
  have h3 : l.length * m ≤ n * m := Nat.mul_le_mul_right _ hn
  omega
theorem nm_len (x : Pk.Nm) (h : okNm x) : (Pk.nName x).length ≤ 30 := by
  have h1 := Pk.nInt_len x.a h.1.1 h.1.2
  have h2 := Pk.nInt_len x.b h.2.1.1 h.2.1.2
  have h3 := Pk.num_len10 x.c h.2.2
  unfold Pk.nName
  rw [List.length_append, List.length_append]
  omega
theorem bx_len (x : Bx) (h : okBx x) : (nBx x).length ≤ 40 := by
  have h1 := Pk.num_len10 x.dst h.1
  have h2 := Pk.num_len10 x.eph h.2.1
  have h3 := Pk.num_len10 x.body h.2.2.1
  have h4 := Pk.num_len10 x.tag h.2.2.2
  unfold nBx
  rw [List.length_append, List.length_append, List.length_append]
  omega
theorem nd_len20 (x : Nd) (h : okNd x) (h2 : x.boxes.length ≤ 20) : (nNd x).length ≤ 820 := by
  have h1 := Pk.num_len10 x.pub h.1
  have h3 := wEach_len (wr := nBx) 40 (fun y hy => bx_len y (h.2.2 y hy)) 20 h2 (by omega)
  unfold nNd
  rw [List.length_append]
  omega
theorem tx_len (s : List UInt8) (h : s.length ≤ 300) : (Pk.nText s).length ≤ 310 := by
  have h1 := Pk.nInt_len (s.length : Nat) (by omega) (by omega)
  unfold Pk.nText
  rw [List.length_append]
  omega
theorem sd_len340 (x : Sd) (h : okSd x) (h2 : x.body.length ≤ 300) : (nSd x).length ≤ 340 := by
  have h1 := nm_len x.nm h.1
  have h3 := tx_len x.body h2
  unfold nSd
  rw [List.length_append]
  omega
theorem put_len {o : Er} (h : Tiny o) : (put o).length ≤ 30000 := by
  have k := h.ok
  have a0 := Pk.nInt_len o.by_ k.by_.1 k.by_.2
  have a1 := Pk.nInt_len o.seq k.seq.1 k.seq.2
  have a2 := Pk.nInt_len o.kind k.kind.1 k.kind.2
  have a3 := Pk.nInt_len o.at_ k.at_.1 k.at_.2
  have a4 := wEach_len (wr := Pk.nName) 30 (fun y hy => nm_len y (k.past.2 y hy)) 20 h.past (by omega)
  have a5 := Pk.nInt_len o.dev k.dev.1 k.dev.2
  have a6 := Pk.nInt_len o.old k.old.1 k.old.2
  have a7 := Pk.nInt_len o.mem k.mem.1 k.mem.2
  have a8 := Pk.nInt_len o.role k.role.1 k.role.2
  have a9 := wEach_len (wr := nNd) 820 (fun y hy => nd_len20 y (k.path.2 y hy) (h.pathB y hy)) 20 h.path (by omega)
  have b0 := nm_len o.epoch k.epoch
  have b1 := Pk.nInt_len o.n k.n.1 k.n.2
  have b2 := tx_len o.body h.body
  have b3 := wEach_len (wr := Pk.num) 10 (fun y hy => Pk.num_len10 y (k.refs.2 y hy)) 20 h.refs (by omega)
  have b4 := nm_len o.of_ k.of_
  have b5 := wEach_len (wr := Pk.nInt) 10 (fun y hy => Pk.nInt_len y (k.guards.2 y hy).1 (k.guards.2 y hy).2) 20 h.guards (by omega)
  have b6 := Pk.nInt_len o.need k.need.1 k.need.2
  have b7 := Pk.nInt_len o.wait k.wait.1 k.wait.2
  have b8 := wEach_len (wr := nBx) 40 (fun y hy => bx_len y (k.boxes.2 y hy)) 20 h.boxes (by omega)
  have b9 := Pk.num_len10 o.pub k.pub
  have d0 := wEach_len (wr := nSd) 340 (fun y hy => sd_len340 y (k.hist.2 y hy) (h.histB y hy)) 20 h.hist (by omega)
  have d1 := Pk.num_len10 o.r k.r
  have d2 := Pk.num_len10 o.s k.s
  unfold put con
  simp only [List.length_append]
  omega
theorem Tiny.small {o : LOp} (h : Tiny o.er) : Small o := by
  refine ⟨h.ok, Nat.le_trans h.body (by omega), fun s hs => ?_⟩
  exact Nat.le_trans (h.histB s.er (List.mem_map_of_mem hs)) (by omega)
theorem Tiny.put9 {o : LOp} (h : Tiny o.er) : (put o.er).length ≤ 900000 := Nat.le_trans (put_len h) (by omega)

/-! ### an operation that the reference made -/
theorem i64_of (a b : Int) {x : Int} (h : a ≤ x ∧ x ≤ b) (ha : -9223372036854775808 ≤ a) (hb : b ≤ 9223372036854775807) : i64 x := ⟨Int.le_trans ha h.1, Int.le_trans h.2 hb⟩
theorem zero_tiny : Tiny LOp.zero.er := ⟨zero_ok, Nat.zero_le _, Nat.zero_le _, (fun _ h => nomatch h), Nat.zero_le _, Nat.zero_le _, Nat.zero_le _, Nat.zero_le _, Nat.zero_le _, (fun _ h => nomatch h)⟩
theorem head_tiny {k b s t : Int} (hk : i64 k) (hb : i64 b) (hs : i64 s) (ht : i64 t) : Tiny { LOp.zero with kind := k, by_ := b, seq := s, at_ := t }.er :=
  { zero_tiny with ok := { zero_tiny.ok with kind := hk, by_ := hb, seq := hs, at_ := ht } }
theorem PastOk.tiny {o o' : LOp} (h : PastOk o o') (k : Tiny o.er) : Tiny o'.er := by
  have h0 := h.few
  have h1 := h.good
  rw [h.eq]
  exact { k with past := (by show o'.past.l.length ≤ 20; omega), ok := { k.ok with past := ⟨(by show o'.past.l.length ≤ 1000; omega), fun y hy => (h1 y hy).ok⟩ } }
theorem PathOk.tiny {o o' : LOp} (h : PathOk o o') (k : Tiny o.er) : Tiny o'.er := by
  have h0 := h.few
  have h1 := h.good
  rw [h.eq]
  have h2 : (o'.path.l.map LNd.er).length ≤ 3 := by rw [List.length_map]; exact h0
  have h3 : ∀ y ∈ o'.path.l.map LNd.er, 1 ≤ y.pub ∧ y.pub ≤ 1000 ∧ y.boxes.length ≤ 2 ∧ ∀ b ∈ y.boxes, GBx b := by
    intro y hy
    obtain ⟨z, hz, rfl⟩ := List.mem_map.1 hy
    exact h1 z hz
  exact { k with path := Nat.le_trans h2 (by omega), pathB := (fun y hy => Nat.le_trans (h3 y hy).2.2.1 (by omega)), ok := { k.ok with path := ⟨Nat.le_trans h2 (by omega), fun y hy => ⟨(by have := (h3 y hy).2.1; show y.pub < _; omega), Nat.le_trans (h3 y hy).2.2.1 (by omega), fun b hb => ((h3 y hy).2.2.2 b hb).ok⟩⟩ } }
theorem HistOk.tiny {o o' : LOp} (h : HistOk o o') (k : Tiny o.er) : Tiny o'.er := by
  have h0 := h.few
  have h1 := h.good
  rw [h.eq]
  have h2 : (o'.hist.l.map LSd.er).length ≤ 2 := by rw [List.length_map]; exact h0
  have h3 : ∀ y ∈ o'.hist.l.map LSd.er, GNm y.nm ∧ 8 ≤ y.body.length ∧ y.body.length ≤ 12 := by
    intro y hy
    obtain ⟨z, hz, rfl⟩ := List.mem_map.1 hy
    exact h1 z hz
  exact { k with hist := Nat.le_trans h2 (by omega), histB := (fun y hy => Nat.le_trans (h3 y hy).2.2 (by omega)), ok := { k.ok with hist := ⟨Nat.le_trans h2 (by omega), fun y hy => ⟨(h3 y hy).1.ok, Nat.le_trans (h3 y hy).2.2 (by omega)⟩⟩ } }
theorem Sw.tiny {o o' : LOp} (h : Sw o o') (k : Tiny o.er) : Tiny o'.er := by
  have z : ∀ {a b x : Int}, a ≤ x ∧ x ≤ b → -1000 ≤ a → b ≤ 1000 → i64 x := fun h ha hb => ⟨by omega, by omega⟩
  cases h with
  | create n hk h0 h1 => exact { k with ok := { k.ok with need := z ⟨h0, h1⟩ (by omega) (by omega) } }
  | add d r hk h0 h1 => exact { k with ok := { k.ok with dev := z h0 (by omega) (by omega), role := z h1 (by omega) (by omega) } }
  | remove d hk h0 => exact { k with ok := { k.ok with dev := z h0 (by omega) (by omega) } }
  | remove2 m hk h0 => exact { k with ok := { k.ok with dev := z (a := 0) (b := 0) ⟨Int.le_refl _, Int.le_refl _⟩ (by omega) (by omega), mem := z h0 (by omega) (by omega) } }
  | update hk => exact k
  | promote m r hk h0 h1 => exact { k with ok := { k.ok with mem := z h0 (by omega) (by omega), role := z h1 (by omega) (by omega) } }
  | message e n b f hk h0 h1 h2 h3 h4 =>
    exact { k with body := (by show b.l.length ≤ 300; omega), refs := (by show f.l.length ≤ 20; omega), ok := { k.ok with epoch := h0.ok, n := z h1 (by omega) (by omega), body := (by show b.l.length ≤ 1000000; omega), refs := ⟨(by show f.l.length ≤ 1000; omega), fun y hy => by have := h4 y hy; show y < _; omega⟩ } }
  | react e b hk h0 h2 => exact { k with body := (by show b.l.length ≤ 300; omega), ok := { k.ok with of_ := h0.ok, body := (by show b.l.length ≤ 1000000; omega) } }
  | plain e hk h0 => exact { k with ok := { k.ok with of_ := h0.ok } }
  | guard g n t p b hk h0 h1 h2 h3 h4 h5 h6 h7 =>
    exact { k with guards := (by show g.l.length ≤ 20; omega), boxes := (by show b.l.length ≤ 20; omega), ok := { k.ok with guards := ⟨(by show g.l.length ≤ 1000; omega), fun y hy => z (h1 y hy) (by omega) (by omega)⟩, need := ⟨by show -9223372036854775808 ≤ n; omega, by show n ≤ 9223372036854775807; omega⟩, wait := ⟨by show -9223372036854775808 ≤ t; omega, by show t ≤ 9223372036854775807; omega⟩, pub := (by show p < _; omega), boxes := ⟨(by show b.l.length ≤ 1000; omega), fun y hy => (h7 y hy).ok⟩ } }
  | refresh e b hk h0 h1 h2 =>
    exact { k with boxes := (by show b.l.length ≤ 20; omega), ok := { k.ok with of_ := h0.ok, boxes := ⟨(by show b.l.length ≤ 1000; omega), fun y hy => (h2 y hy).ok⟩ } }
  | vouch e d b hk h0 h3 h1 h2 =>
    exact { k with boxes := (by show b.l.length ≤ 20; omega), ok := { k.ok with of_ := h0.ok, dev := z h3 (by omega) (by omega), boxes := ⟨(by show b.l.length ≤ 1000; omega), fun y hy => (h2 y hy).ok⟩ } }
  | replace e d d2 hk h0 h1 h2 => exact { k with ok := { k.ok with of_ := h0.ok, dev := z h1 (by omega) (by omega), old := z h2 (by omega) (by omega) } }
theorem GOp.tiny {xs : List Int} {o : LOp} (h : GOp xs o) : Tiny o.er := by
  obtain ⟨r0, r3, o1, o2, o3, h0, h3, p1, p2, p3, p4⟩ := h
  have b1 := nx_lt xs (0 + 1) (show 0 < 6 by omega)
  have b2 := nx_lt xs (0 + 1 + 1) (show 0 < 20 by omega)
  exact p4.tiny (p3.tiny (p2.tiny (p1.tiny (head_tiny ⟨by omega, by omega⟩ ⟨by omega, by omega⟩ ⟨by omega, by omega⟩ ⟨by omega, by omega⟩))))
theorem Sw.head {o o' : LOp} (h : Sw o o') : o'.by_ = o.by_ ∧ o'.seq = o.seq ∧ o'.kind = o.kind := by cases h <;> exact ⟨rfl, rfl, rfl⟩
theorem GOp.head {xs : List Int} {o : LOp} (h : GOp xs o) : o.by_ = 1 + (nx xs (0 + 1) 6 : Nat) ∧ o.seq = 1 + (nx xs (0 + 1 + 1) 20 : Nat) := by
  obtain ⟨r0, r3, o1, o2, o3, h0, h3, p1, p2, p3, p4⟩ := h
  obtain ⟨e1, e2, _⟩ := p3.head
  rw [p4.eq]
  show o3.by_ = _ ∧ o3.seq = _
  rw [e1, e2, p2.eq]
  show o1.by_ = _ ∧ o1.seq = _
  rw [p1.eq]
  exact ⟨rfl, rfl⟩
end Ot
end Go.Proofs.YtkicjjcangkneaaGreatDoor
