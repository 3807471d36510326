/-
  Operations' bytes, no program: what is written of records one behind the other, and what is read of them: what is written is read; what is read, written again, is the same; no beginning is whole.
-/
import Derived.Test.YtkicjjcangkneaaGreatDoorOpu
namespace Go.Proofs.YtkicjjcangkneaaGreatDoor
namespace Ot
open Pk (R nInt nText nName num pNum pInt pMany pText pName)

/-! ### readers and writers that fit -/
structure Fit {α : Type} (wr : α → List UInt8) (rd : List UInt8 → R α) (ok : α → Prop) : Prop where
  rnd : ∀ x r, ok x → rd (wr x ++ r) = ⟨x, (wr x).length, 0⟩
  cut : ∀ x i, ok x → i < (wr x).length → (rd ((wr x).take i)).e = 9
  one : ∀ l, l.length ≤ 1000000 → (rd l).e = 0 → ok (rd l).v ∧ wr (rd l).v = l.take (rd l).n ∧ (rd l).n ≤ l.length

def sq {α β : Type} (a : List UInt8 → R α) (b : List UInt8 → R β) (l : List UInt8) : R (α × β) :=
  ⟨((a l).v, (b (l.drop (a l).n)).v), (a l).n + (b (l.drop (a l).n)).n, if (a l).e = 0 then (b (l.drop (a l).n)).e else (a l).e⟩
def wsq {α β : Type} (a : α → List UInt8) (b : β → List UInt8) (x : α × β) : List UInt8 := a x.1 ++ b x.2
def osq {α β : Type} (a : α → Prop) (b : β → Prop) (x : α × β) : Prop := a x.1 ∧ b x.2
theorem Fit.sq {α β : Type} {wa : α → List UInt8} {a : List UInt8 → R α} {oa : α → Prop} {wb : β → List UInt8} {b : List UInt8 → R β} {ob : β → Prop} (h : Fit wa a oa) (k : Fit wb b ob) : Fit (wsq wa wb) (sq a b) (osq oa ob) := by
  refine ⟨fun x r ⟨h1, h2⟩ => ?_, fun x i ⟨h1, h2⟩ hi => ?_, fun l hl he => ?_⟩
  · have e1 := h.rnd x.1 (wb x.2 ++ r) h1
    have e2 := k.rnd x.2 r h2
    unfold wsq Ot.sq
    rw [List.append_assoc, e1]
    simp only [List.drop_left, e2, if_pos, List.length_append]
  · unfold wsq at hi ⊢
    rw [List.length_append] at hi
    by_cases c : i < (wa x.1).length
    · rw [Pk.take_app c]
      have e1 := h.cut x.1 i h1 c
      unfold Ot.sq
      simp only [e1]
      rw [if_neg (by decide)]
    · rw [Pk.take_app2 (by omega)]
      have e1 := h.rnd x.1 ((wb x.2).take (i - (wa x.1).length)) h1
      have e2 := k.cut x.2 (i - (wa x.1).length) h2 (by omega)
      unfold Ot.sq
      rw [e1]
      simp only [List.drop_left, e2, if_pos]
  · unfold Ot.sq at he ⊢
    simp only at he ⊢
    by_cases c : (a l).e = 0
    · rw [if_pos c] at he
      obtain ⟨h1, h2, h3⟩ := h.one l hl c
      obtain ⟨k1, k2, k3⟩ := k.one (l.drop (a l).n) (by rw [List.length_drop]; omega) he
      rw [List.length_drop] at k3
      refine ⟨⟨h1, k1⟩, ?_, by omega⟩
      unfold wsq
      simp only
      rw [h2, k2, List.take_add]
    · rw [if_neg c] at he
      exact absurd he c

/-- The same, of other records. -/
def mp {α β : Type} (f : α → β) (a : List UInt8 → R α) (l : List UInt8) : R β := ⟨f (a l).v, (a l).n, (a l).e⟩
theorem Fit.mp {α β : Type} {wa : α → List UInt8} {a : List UInt8 → R α} {oa : α → Prop} (h : Fit wa a oa) (f : α → β) (g : β → α) (hfg : ∀ y, f (g y) = y) (hgf : ∀ x, g (f x) = x) : Fit (fun y => wa (g y)) (mp f a) (fun y => oa (g y)) := by
  refine ⟨fun y r hy => ?_, fun y i hy hi => h.cut (g y) i hy hi, fun l hl he => ?_⟩
  · unfold Ot.mp
    rw [h.rnd (g y) r hy]
    simp only [hfg]
  · obtain ⟨h1, h2, h3⟩ := h.one l hl he
    refine ⟨?_, ?_, h3⟩
    · show oa (g (f (a l).v)); rw [hgf]; exact h1
    · show wa (g (f (a l).v)) = _; rw [hgf]; exact h2

theorem Fit.same {α : Type} {wa wb : α → List UInt8} {a : List UInt8 → R α} {oa ob : α → Prop} (h : Fit wa a oa) (hw : ∀ x, wa x = wb x) (h1 : ∀ x, ob x → oa x) (h2 : ∀ x, oa x → ob x) : Fit wb a ob := by
  have e : wa = wb := funext hw
  subst e
  exact ⟨fun x r hx => h.rnd x r (h1 x hx), fun x i hx hi => h.cut x i (h1 x hx) hi, fun l hl he => ⟨h2 _ (h.one l hl he).1, (h.one l hl he).2⟩⟩

/-! ### so many of them -/
def rep {α : Type} (rd : List UInt8 → R α) : Nat → List UInt8 → R (List α)
  | 0, _ => ⟨[], 0, 0⟩
  | n + 1, l => ⟨(rd l).v :: (rep rd n (l.drop (rd l).n)).v, (rd l).n + (rep rd n (l.drop (rd l).n)).n, if (rd l).e = 0 then (rep rd n (l.drop (rd l).n)).e else (rd l).e⟩
theorem rep_succ {α : Type} (rd : List UInt8 → R α) (n : Nat) (l : List UInt8) : rep rd (n + 1) l = ⟨(rd l).v :: (rep rd n (l.drop (rd l).n)).v, (rd l).n + (rep rd n (l.drop (rd l).n)).n, if (rd l).e = 0 then (rep rd n (l.drop (rd l).n)).e else (rd l).e⟩ := rfl
def each {α : Type} (rd : List UInt8 → R α) (l : List UInt8) : R (List α) :=
  ⟨(rep rd (pMany 1000 l).v.toNat (l.drop (pMany 1000 l).n)).v, (pMany 1000 l).n + (rep rd (pMany 1000 l).v.toNat (l.drop (pMany 1000 l).n)).n, if (pMany 1000 l).e = 0 then (rep rd (pMany 1000 l).v.toNat (l.drop (pMany 1000 l).n)).e else (pMany 1000 l).e⟩
def wEach {α : Type} (wr : α → List UInt8) (l : List α) : List UInt8 := nInt (l.length : Nat) ++ l.flatMap wr
def okEach {α : Type} (ok : α → Prop) (l : List α) : Prop := l.length ≤ 1000 ∧ ∀ x ∈ l, ok x

theorem rep_rnd {α : Type} {wr : α → List UInt8} {rd : List UInt8 → R α} {ok : α → Prop} (h : Fit wr rd ok) : ∀ (l : List α) (r : List UInt8), (∀ x ∈ l, ok x) → rep rd l.length (l.flatMap wr ++ r) = ⟨l, (l.flatMap wr).length, 0⟩
  | [], r, _ => rfl
  | x :: l, r, hx => by
    have e1 := h.rnd x (l.flatMap wr ++ r) (hx x (List.mem_cons_self ..))
    have e2 := rep_rnd h l r (fun y hy => hx y (List.mem_cons_of_mem _ hy))
    rw [List.flatMap_cons, List.append_assoc, List.length_cons]
    unfold rep
    rw [e1]
    simp only [List.drop_left, e2, if_pos, List.length_append]
theorem rep_cut {α : Type} {wr : α → List UInt8} {rd : List UInt8 → R α} {ok : α → Prop} (h : Fit wr rd ok) : ∀ (l : List α) (i : Nat), (∀ x ∈ l, ok x) → i < (l.flatMap wr).length → (rep rd l.length ((l.flatMap wr).take i)).e = 9
  | [], i, _, hi => by simp at hi
  | x :: l, i, hx, hi => by
    rw [List.flatMap_cons] at hi ⊢
    rw [List.length_append] at hi
    rw [List.length_cons]
    unfold rep
    by_cases c : i < (wr x).length
    · rw [Pk.take_app c]
      have e1 := h.cut x i (hx x (List.mem_cons_self ..)) c
      simp only [e1]
      rw [if_neg (by decide)]
    · rw [Pk.take_app2 (by omega)]
      have e1 := h.rnd x ((l.flatMap wr).take (i - (wr x).length)) (hx x (List.mem_cons_self ..))
      have e2 := rep_cut h l (i - (wr x).length) (fun y hy => hx y (List.mem_cons_of_mem _ hy)) (by omega)
      rw [e1]
      simp only [List.drop_left, e2, if_pos]
theorem rep_one {α : Type} {wr : α → List UInt8} {rd : List UInt8 → R α} {ok : α → Prop} (h : Fit wr rd ok) : ∀ (n : Nat) (l : List UInt8), l.length ≤ 1000000 → (rep rd n l).e = 0 → (rep rd n l).v.length = n ∧ (∀ x ∈ (rep rd n l).v, ok x) ∧ (rep rd n l).v.flatMap wr = l.take (rep rd n l).n ∧ (rep rd n l).n ≤ l.length
  | 0, l, _, _ => by simp [rep]
  | n + 1, l, hl, he => by
    unfold rep at he ⊢
    simp only at he ⊢
    by_cases c : (rd l).e = 0
    · rw [if_pos c] at he
      obtain ⟨h1, h2, h3⟩ := h.one l hl c
      obtain ⟨k0, k1, k2, k3⟩ := rep_one h n (l.drop (rd l).n) (by rw [List.length_drop]; omega) he
      rw [List.length_drop] at k3
      refine ⟨by rw [List.length_cons, k0], fun x hx => ?_, ?_, by omega⟩
      · rcases List.mem_cons.1 hx with rfl | hx
        · exact h1
        · exact k1 x hx
      · rw [List.flatMap_cons, h2, k2, List.take_add]
    · rw [if_neg c] at he
      exact absurd he c
theorem many_rnd (n : Nat) (r : List UInt8) (h : n ≤ 1000) : pMany 1000 (nInt (n : Nat) ++ r) = ⟨(n : Int), (nInt (n : Nat)).length, 0⟩ := Pk.rnd_many 1000 (n : Int) r (by omega) (by omega) (by omega)
theorem Fit.each {α : Type} {wr : α → List UInt8} {rd : List UInt8 → R α} {ok : α → Prop} (h : Fit wr rd ok) : Fit (wEach wr) (each rd) (okEach ok) := by
  refine ⟨fun x r ⟨h1, h2⟩ => ?_, fun x i ⟨h1, h2⟩ hi => ?_, fun l hl he => ?_⟩
  · have e1 := many_rnd x.length (x.flatMap wr ++ r) h1
    have e2 := rep_rnd h x r h2
    unfold wEach Ot.each
    rw [List.append_assoc, e1]
    simp only [List.drop_left, Int.toNat_natCast, e2, if_pos, List.length_append]
  · unfold wEach at hi ⊢
    rw [List.length_append] at hi
    by_cases c : i < (nInt (x.length : Nat)).length
    · rw [Pk.take_app c]
      have e1 := Pk.cut_int (x.length : Nat) i (by omega) (by omega) c
      have e2 := Pk.many_bad (m := 1000) e1
      unfold Ot.each
      simp only [e2]
      rw [if_neg (by decide)]
    · rw [Pk.take_app2 (by omega)]
      have e1 := many_rnd x.length ((x.flatMap wr).take (i - (nInt (x.length : Nat)).length)) h1
      have e2 := rep_cut h x (i - (nInt (x.length : Nat)).length) h2 (by omega)
      unfold Ot.each
      rw [e1]
      simp only [List.drop_left, Int.toNat_natCast, e2, if_pos]
  · unfold Ot.each at he ⊢
    simp only at he ⊢
    by_cases c : (pMany 1000 l).e = 0
    · rw [if_pos c] at he
      have h2 := Pk.one_many 1000 l c
      obtain ⟨m1, m2, m3, m4⟩ := Pk.many_ok c
      have h3 := Pk.int_len l
      rw [← m1] at m2 m3 h3
      obtain ⟨k0, k1, k2, k3⟩ := rep_one h _ (l.drop (pMany 1000 l).n) (by rw [List.length_drop]; omega) he
      rw [List.length_drop] at k3
      refine ⟨⟨by omega, k1⟩, ?_, by omega⟩
      unfold wEach
      rw [k0, Int.toNat_of_nonneg m2, h2, k2, List.take_add]
    · rw [if_neg c] at he
      exact absurd he c

/-! ### plain ones -/
def i64 (n : Int) : Prop := -9223372036854775808 ≤ n ∧ n ≤ 9223372036854775807
def u64 (n : Nat) : Prop := n < 18446744073709551616
def okNm (x : Pk.Nm) : Prop := i64 x.a ∧ i64 x.b ∧ u64 x.c
def okTx (s : List UInt8) : Prop := s.length ≤ 1000000
theorem fit_num : Fit num pNum u64 := ⟨fun x r h => Pk.rnd_num x r h, fun x i h hi => by rw [Pk.cut_num x i h hi], fun l _ he => ⟨Pk.sev_lt64 l, Pk.one_num l he, (Pk.sev_len l 0).1⟩⟩
theorem fit_int : Fit nInt pInt i64 := ⟨fun x r h => Pk.rnd_int x r h.1 h.2, fun x i h hi => by rw [Pk.cut_int x i h.1 h.2 hi], fun l _ he => ⟨Pk.zag_lt _ (Pk.sev_lt64 l), Pk.one_int l he, Pk.int_len l⟩⟩
theorem fit_text : Fit nText pText okTx := ⟨fun x r h => Pk.rnd_text x r h, fun x i h hi => by rw [Pk.cut_text x i h hi], fun l hl he => by
  obtain ⟨h1, h2, h3⟩ := Pk.one_text l he
  exact ⟨Nat.le_trans h3 hl, h1, h2⟩⟩
theorem pname_ok (l : List UInt8) : okNm (pName l).v := by
  have z0 : i64 0 := ⟨by decide, by decide⟩
  have hz : okNm ⟨0, 0, 0⟩ := ⟨z0, z0, by show (0 : Nat) < 18446744073709551616; omega⟩
  unfold pName
  split
  · exact hz
  · split
    · exact hz
    · split
      · exact hz
      · exact ⟨Pk.zag_lt _ (Pk.sev_lt64 _), Pk.zag_lt _ (Pk.sev_lt64 _), Pk.sev_lt64 _⟩
theorem fit_name : Fit nName pName okNm := ⟨fun x r h => Pk.rnd_name x r h.1.1 h.1.2 h.2.1.1 h.2.1.2 h.2.2, fun x i h hi => by rw [Pk.cut_name x i h.1.1 h.1.2 h.2.1.1 h.2.1.2 h.2.2 hi], fun l _ he => ⟨pname_ok l, Pk.one_name l he⟩⟩

/-! ### records -/
structure Bx where
  dst : Nat
  eph : Nat
  body : Nat
  tag : Nat
structure Nd where
  pub : Nat
  boxes : List Bx
structure Sd where
  nm : Pk.Nm
  body : List UInt8
structure Er where
  by_ : Int
  seq : Int
  kind : Int
  at_ : Int
  past : List Pk.Nm
  dev : Int
  old : Int
  mem : Int
  role : Int
  path : List Nd
  epoch : Pk.Nm
  n : Int
  body : List UInt8
  refs : List Nat
  of_ : Pk.Nm
  guards : List Int
  need : Int
  wait : Int
  boxes : List Bx
  pub : Nat
  hist : List Sd
  r : Nat
  s : Nat
def nBx (b : Bx) : List UInt8 := num b.dst ++ (num b.eph ++ (num b.body ++ num b.tag))
def nNd (n : Nd) : List UInt8 := num n.pub ++ wEach nBx n.boxes
def nSd (s : Sd) : List UInt8 := nName s.nm ++ nText s.body
def okBx (b : Bx) : Prop := u64 b.dst ∧ u64 b.eph ∧ u64 b.body ∧ u64 b.tag
def okNd (n : Nd) : Prop := u64 n.pub ∧ okEach okBx n.boxes
def okSd (s : Sd) : Prop := okNm s.nm ∧ okTx s.body
def pBx : List UInt8 → R Bx := mp (fun x : Nat × Nat × Nat × Nat => ⟨x.1, x.2.1, x.2.2.1, x.2.2.2⟩) (sq pNum (sq pNum (sq pNum pNum)))
def pNd : List UInt8 → R Nd := mp (fun x : Nat × List Bx => ⟨x.1, x.2⟩) (sq pNum (each pBx))
def pSd : List UInt8 → R Sd := mp (fun x : Pk.Nm × List UInt8 => ⟨x.1, x.2⟩) (sq pName pText)
theorem fit_bx : Fit nBx pBx okBx := (fit_num.sq (fit_num.sq (fit_num.sq fit_num))).mp _ (fun b : Bx => (b.dst, b.eph, b.body, b.tag)) (fun _ => rfl) (fun _ => rfl)
theorem fit_nd : Fit nNd pNd okNd := (fit_num.sq fit_bx.each).mp _ (fun n : Nd => (n.pub, n.boxes)) (fun _ => rfl) (fun _ => rfl)
theorem fit_sd : Fit nSd pSd okSd := (fit_name.sq fit_text).mp _ (fun s : Sd => (s.nm, s.body)) (fun _ => rfl) (fun _ => rfl)

/-- An operation's bytes. -/
def con (o : Er) : List UInt8 :=
  nInt o.by_ ++ (nInt o.seq ++ (nInt o.kind ++ (nInt o.at_ ++ (wEach nName o.past ++ (nInt o.dev ++ (nInt o.old ++ (nInt o.mem ++ (nInt o.role ++ (wEach nNd o.path ++ (nName o.epoch ++ (nInt o.n ++ (nText o.body ++ (wEach num o.refs ++ (nName o.of_ ++ (wEach nInt o.guards ++ (nInt o.need ++ (nInt o.wait ++ (wEach nBx o.boxes ++ (num o.pub ++ wEach nSd o.hist)))))))))))))))))))
def put (o : Er) : List UInt8 := con o ++ (num o.r ++ num o.s)
abbrev Tup : Type := Int × Int × Int × Int × List Pk.Nm × Int × Int × Int × Int × List Nd × Pk.Nm × Int × List UInt8 × List Nat × Pk.Nm × List Int × Int × Int × List Bx × Nat × List Sd
def Er.tup (o : Er) : Tup := (o.by_, o.seq, o.kind, o.at_, o.past, o.dev, o.old, o.mem, o.role, o.path, o.epoch, o.n, o.body, o.refs, o.of_, o.guards, o.need, o.wait, o.boxes, o.pub, o.hist)
def ofTup : Tup × Nat × Nat → Er
  | ((a1, a2, a3, a4, a5, a6, a7, a8, a9, a10, a11, a12, a13, a14, a15, a16, a17, a18, a19, a20, a21), r, s) => ⟨a1, a2, a3, a4, a5, a6, a7, a8, a9, a10, a11, a12, a13, a14, a15, a16, a17, a18, a19, a20, a21, r, s⟩
def pCon : List UInt8 → R Tup :=
  sq pInt (sq pInt (sq pInt (sq pInt (sq (each pName) (sq pInt (sq pInt (sq pInt (sq pInt (sq (each pNd) (sq pName (sq pInt (sq pText (sq (each pNum) (sq pName (sq (each pInt) (sq pInt (sq pInt (sq (each pBx) (sq pNum (each pSd))))))))))))))))))))
def pOp : List UInt8 → R Er := mp ofTup (sq pCon (sq pNum pNum))
/-- What memory can hold of an operation, and at most 1000 of everything. -/
structure Ok (o : Er) : Prop where
  by_ : i64 o.by_
  seq : i64 o.seq
  kind : i64 o.kind
  at_ : i64 o.at_
  past : okEach okNm o.past
  dev : i64 o.dev
  old : i64 o.old
  mem : i64 o.mem
  role : i64 o.role
  path : okEach okNd o.path
  epoch : okNm o.epoch
  n : i64 o.n
  body : okTx o.body
  refs : okEach u64 o.refs
  of_ : okNm o.of_
  guards : okEach i64 o.guards
  need : i64 o.need
  wait : i64 o.wait
  boxes : okEach okBx o.boxes
  pub : u64 o.pub
  hist : okEach okSd o.hist
  r : u64 o.r
  s : u64 o.s
theorem fit_op : Fit put pOp Ok := by
  have F0 := fit_int.sq (fit_int.sq (fit_int.sq (fit_int.sq (fit_name.each.sq (fit_int.sq (fit_int.sq (fit_int.sq (fit_int.sq (fit_nd.each.sq (fit_name.sq (fit_int.sq (fit_text.sq (fit_num.each.sq (fit_name.sq (fit_int.each.sq (fit_int.sq (fit_int.sq (fit_bx.each.sq (fit_num.sq fit_sd.each)))))))))))))))))))
  have F := (F0.sq (fit_num.sq fit_num)).mp ofTup (fun o : Er => (o.tup, o.r, o.s)) (fun _ => rfl) (fun _ => rfl)
  refine F.same (fun o => rfl) (fun o h => ⟨⟨h.by_, h.seq, h.kind, h.at_, h.past, h.dev, h.old, h.mem, h.role, h.path, h.epoch, h.n, h.body, h.refs, h.of_, h.guards, h.need, h.wait, h.boxes, h.pub, h.hist⟩, h.r, h.s⟩) (fun o h => ?_)
  obtain ⟨⟨a1, a2, a3, a4, a5, a6, a7, a8, a9, a10, a11, a12, a13, a14, a15, a16, a17, a18, a19, a20, a21⟩, a22, a23⟩ := h
  exact ⟨a1, a2, a3, a4, a5, a6, a7, a8, a9, a10, a11, a12, a13, a14, a15, a16, a17, a18, a19, a20, a21, a22, a23⟩
theorem op_rnd (o : Er) (r : List UInt8) (h : Ok o) : pOp (put o ++ r) = ⟨o, (put o).length, 0⟩ := fit_op.rnd o r h
theorem op_cut (o : Er) (i : Nat) (h : Ok o) (hi : i < (put o).length) : (pOp ((put o).take i)).e = 9 := fit_op.cut o i h hi
theorem op_one (l : List UInt8) (hl : l.length ≤ 1000000) (h : (pOp l).e = 0) : Ok (pOp l).v ∧ put (pOp l).v = l.take (pOp l).n ∧ (pOp l).n ≤ l.length := fit_op.one l hl h
/-- What Get tells: what is wrong. -/
def wrong (l : List UInt8) : Int := if (pOp l).e = 0 then (if (pOp l).n < l.length then 2 else 0) else (pOp l).e
theorem wrong_put (o : Er) (h : Ok o) : wrong (put o) = 0 ∧ (pOp (put o)).v = o := by
  have := op_rnd o [] h
  rw [List.append_nil] at this
  unfold wrong
  rw [this]
  exact ⟨by simp, rfl⟩
theorem wrong_cut (o : Er) (i : Nat) (h : Ok o) (hi : i < (put o).length) : wrong ((put o).take i) = 9 := by
  have := op_cut o i h hi
  unfold wrong
  rw [this, if_neg (by decide)]
theorem wrong_long (o : Er) (r : List UInt8) (h : Ok o) (hr : 0 < r.length) : wrong (put o ++ r) = 2 := by
  have := op_rnd o r h
  unfold wrong
  rw [this, if_pos rfl, if_pos (by simp only [List.length_append]; omega)]
theorem wrong_one (l : List UInt8) (hl : l.length ≤ 1000000) (h : wrong l = 0) : Ok (pOp l).v ∧ put (pOp l).v = l := by
  unfold wrong at h
  by_cases c : (pOp l).e = 0
  · rw [if_pos c] at h
    obtain ⟨h1, h2, h3⟩ := op_one l hl c
    refine ⟨h1, ?_⟩
    rw [h2, List.take_of_length_le]
    split at h
    · exact absurd h (by decide)
    · omega
  · rw [if_neg c] at h
    exact absurd h c
/-- Unlike operations have unlike bytes. -/
theorem put_inj (o o' : Er) (h : Ok o) (h' : Ok o') (e : put o = put o') : o = o' := by
  have h1 := (wrong_put o h).2
  rw [e] at h1
  exact h1.symm.trans (wrong_put o' h').2
theorem con_inj (o o' : Er) (h : Ok o) (h' : Ok o') (e : con o = con o') : { o with r := 0, s := 0 } = { o' with r := 0, s := 0 } := by
  have k : ∀ x : Er, Ok x → Ok { x with r := 0, s := 0 } := fun x hx => ⟨hx.by_, hx.seq, hx.kind, hx.at_, hx.past, hx.dev, hx.old, hx.mem, hx.role, hx.path, hx.epoch, hx.n, hx.body, hx.refs, hx.of_, hx.guards, hx.need, hx.wait, hx.boxes, hx.pub, hx.hist, by show (0 : Nat) < _; omega, by show (0 : Nat) < _; omega⟩
  refine put_inj _ _ (k o h) (k o' h') ?_
  show con o ++ _ = con o' ++ _
  rw [e]

/-! ### what is read, step by step -/
/-- Reading goes from place k (with error e) to place k' (with error e'), and tells v. -/
def Rok {α : Type} (rd : List UInt8 → R α) (l : List UInt8) (k k' : Nat) (e e' : Int) (v : α) : Prop :=
  (e ≠ 0 → e' = e) ∧ (e = 0 → e' = (rd (l.drop k)).e ∧ (e' = 0 → k' = k + (rd (l.drop k)).n ∧ v = (rd (l.drop k)).v))
theorem Rok.sq {α β : Type} {a : List UInt8 → R α} {b : List UInt8 → R β} {l : List UInt8} {k k1 k2 : Nat} {e e1 e2 : Int} {x : α} {y : β} (h : Rok a l k k1 e e1 x) (j : Rok b l k1 k2 e1 e2 y) : Rok (Ot.sq a b) l k k2 e e2 (x, y) := by
  refine ⟨fun h0 => ?_, fun h0 => ?_⟩
  · have := h.1 h0
    rw [← this]
    exact j.1 (by rw [this]; exact h0)
  · obtain ⟨h1, h2⟩ := h.2 h0
    unfold Ot.sq
    simp only
    by_cases c : e1 = 0
    · obtain ⟨h3, h4⟩ := h2 c
      obtain ⟨j1, j2⟩ := j.2 c
      rw [h3, ← List.drop_drop] at j1 j2
      rw [if_pos (by rw [← h1]; exact c)]
      refine ⟨j1, fun h5 => ?_⟩
      obtain ⟨j3, j4⟩ := j2 h5
      exact ⟨by rw [j3, Nat.add_assoc], by rw [h4, j4]⟩
    · rw [if_neg (by rw [← h1]; exact c), ← h1]
      have := j.1 c
      exact ⟨this, fun h5 => absurd (this ▸ h5) c⟩
theorem Rok.mp {α β : Type} {a : List UInt8 → R α} {l : List UInt8} {k k1 : Nat} {e e1 : Int} {x : α} (h : Rok a l k k1 e e1 x) (f : α → β) : Rok (Ot.mp f a) l k k1 e e1 (f x) :=
  ⟨h.1, fun h0 => ⟨(h.2 h0).1, fun h5 => ⟨((h.2 h0).2 h5).1, by rw [((h.2 h0).2 h5).2]; rfl⟩⟩⟩
theorem Rok.of_stp {α : Type} (z : α) (rd : List UInt8 → R α) (l : List UInt8) (k : Nat) (e : Int) : Rok rd l k (k + (Pk.stp z e (rd (l.drop k))).n) e (Pk.stp z e (rd (l.drop k))).e (Pk.stp z e (rd (l.drop k))).v := by
  refine ⟨fun h => by rw [Pk.stp_bad z _ h], fun h => ?_⟩
  subst h
  rw [Pk.stp_ok]
  exact ⟨rfl, fun _ => ⟨rfl, rfl⟩⟩
/-- So many were read of n, ahead of place k1. -/
def Rep {α : Type} (rd : List UInt8 → R α) (l : List UInt8) (k n : Nat) (L : List α) (k1 : Nat) (e : Int) : Prop :=
  L.length ≤ n ∧ (e = 0 → ((rep rd n (l.drop k)).e = (rep rd (n - L.length) (l.drop k1)).e ∧ ((rep rd (n - L.length) (l.drop k1)).e = 0 → (rep rd n (l.drop k)).v = L ++ (rep rd (n - L.length) (l.drop k1)).v ∧ k + (rep rd n (l.drop k)).n = k1 + (rep rd (n - L.length) (l.drop k1)).n)))
theorem Rep.zero {α : Type} (rd : List UInt8 → R α) (l : List UInt8) (k n : Nat) (e : Int) : Rep rd l k n [] k e := ⟨Nat.zero_le _, fun _ => ⟨rfl, fun _ => ⟨rfl, rfl⟩⟩⟩
theorem Rep.step {α : Type} {rd : List UInt8 → R α} {l : List UInt8} {k n k1 k2 : Nat} {L : List α} {x : α} (h : Rep rd l k n L k1 0) (hl : L.length < n) (hx : Rok rd l k1 k2 0 0 x) : Rep rd l k n (L ++ [x]) k2 0 := by
  obtain ⟨h1, h2⟩ := hx.2 rfl
  obtain ⟨h3, h4⟩ := h2 rfl
  obtain ⟨g1, g2⟩ := h.2 rfl
  have en : n - L.length = (n - (L ++ [x]).length) + 1 := by rw [List.length_append, List.length_singleton]; omega
  rw [en, rep_succ] at g1 g2
  refine ⟨by rw [List.length_append, List.length_singleton]; omega, fun _ => ?_⟩
  generalize n - (L ++ [x]).length = m at g1 g2 ⊢
  simp only [← h1, if_pos] at g1 g2
  rw [List.drop_drop, ← h3] at g1 g2
  refine ⟨g1, fun h5 => ?_⟩
  obtain ⟨g3, g4⟩ := g2 h5
  exact ⟨by rw [g3, List.append_assoc, ← h4]; rfl, by omega⟩
theorem Rep.bad {α : Type} {rd : List UInt8 → R α} {l : List UInt8} {k n k1 k2 : Nat} {L : List α} {x : α} {e : Int} (h : Rep rd l k n L k1 0) (hl : L.length < n) (he : e ≠ 0) (hx : Rok rd l k1 k2 0 e x) : (rep rd n (l.drop k)).e = e := by
  obtain ⟨h1, _⟩ := hx.2 rfl
  obtain ⟨g1, _⟩ := h.2 rfl
  rw [g1, show n - L.length = (n - L.length - 1) + 1 by omega, rep_succ]
  simp only
  rw [if_neg (by rw [← h1]; exact he), ← h1]
theorem Rep.done {α : Type} {rd : List UInt8 → R α} {l : List UInt8} {k n k1 : Nat} {L : List α} (h : Rep rd l k n L k1 0) (hl : L.length = n) : (rep rd n (l.drop k)).e = 0 ∧ (rep rd n (l.drop k)).v = L ∧ k + (rep rd n (l.drop k)).n = k1 := by
  obtain ⟨g1, g2⟩ := h.2 rfl
  rw [hl, Nat.sub_self] at g1 g2
  obtain ⟨g3, g4⟩ := g2 rfl
  exact ⟨g1, by rw [g3]; exact List.append_nil _, g4⟩
end Ot
end Go.Proofs.YtkicjjcangkneaaGreatDoor
