/-
  Package op's Same: two whose fields and items are all alike are told so. No condition but what fits memory.
-/
import Derived.Test.YtkicjjcangkneaaGreatDoorOtl
namespace Go.Proofs.YtkicjjcangkneaaGreatDoor
open Go.RowKit
attribute [local go_sem ↓] Go.wp_at_zero Go.wp_at_succ
set_option maxRecDepth 100000
namespace Ot
theorem sg_held : Tryz.prog.stoodInHeld 33 = false := by kernel_rfl
theorem sg_guard : Tryz.prog.eqGuardType Tryz.prog.depth 33 = false := by kernel_rfl
theorem sg_under : Tryz.prog.underlying 33 = some (.struct (Tryz.prog.fieldsOf 33)) := by kernel_rfl
theorem sg_same (a b a' b' : Nat) (w : World) (n : Nat) :
    (Op.equalIn (n + 2) 33 (.agg #[.int .u64 (a : Int), .int .u64 (b : Int)]) (.agg #[.int .u64 (a' : Int), .int .u64 (b' : Int)])).run Tryz.prog w = .ok (decide (a = a' ∧ b = b')) w := by
  rw [run_equalIn_struct w (n + 1) 33 _ _ sg_under sg_held]
  have hf : (Tryz.prog.fieldsOf 33).toList = [{ name := "R", type := 25, offset := 0, embedded := false, tag := "", pkgPath := "", byteOffset := 0 },
          { name := "S", type := 25, offset := 1, embedded := false, tag := "", pkgPath := "", byteOffset := 8 }] := by
    simp [Program.fieldsOf, Tryz.underlying33]
  rw [hf]
  have hu := fun (w : World) (x y : Nat) => (run_equalIn_int (P := Tryz.prog) w n 25 .u64 .u64 (x : Int) (y : Int) Tryz.underlying25).trans (by rw [nat_beq])
  have hp := fun (w : World) (xs : Array Value) (i : Nat) (v : Value) (h : xs[i]? = some v) => (show (part 25 xs i).run Tryz.prog w = .ok v w by simp [part, isAgg, go_sem, run_underlying Tryz.underlying25, h])
  have h0 := fun (w : World) (x0 x1 : Nat) => hp w #[.int .u64 (x0 : Int), .int .u64 (x1 : Int)] 0 _ rfl
  have h1 := fun (w : World) (x0 x1 : Nat) => hp w #[.int .u64 (x0 : Int), .int .u64 (x1 : Int)] 1 _ rfl
  by_cases q1 : a = a' <;> by_cases q2 : b = b' <;>
    simp [Op.eqFields, Sem.run_bind, hu, h0, h1, q1, q2, Result.andThen_ok, Sem.run_ite, Sem.run_pure]
theorem sg_eql (a b a' b' : Nat) (w : World) :
    (binOp .eql 33 (.agg #[.int .u64 (a : Int), .int .u64 (b : Int)]) (.agg #[.int .u64 (a' : Int), .int .u64 (b' : Int)])).run Tryz.prog w = .ok (.bool (decide (a = a' ∧ b = b'))) w := by
  rw [run_eql_struct, sg_same]
  rfl
theorem sg_free (op : BinOp) (x y : Operand) (xs ys : Array Value) (w : World) : (eqGuard op 33 x y (.agg xs) (.agg ys)).run Tryz.prog w = .ok () w :=
  run_eqGuard_agg w op 33 x y xs ys sg_guard

theorem nd_len {o : LOp} (h : Ok o.er) : o.path.l.length ≤ 1000000 := by have := h.path.1; unfold LOp.er at this; rw [List.length_map] at this; exact Nat.le_trans this (by decide)
theorem sd_len {o : LOp} (h : Ok o.er) : o.hist.l.length ≤ 1000000 := by have := h.hist.1; unfold LOp.er at this; rw [List.length_map] at this; exact Nat.le_trans this (by decide)

set_option maxHeartbeats 8000000 in
theorem same_true {w : World} (o o' : LOp) (hx : Lies No w o) (hy : Lies No w o') (hk : Ok o.er) (hk' : Ok o'.er) (he : o.er = o'.er) :
    Calls Tryz.prog 31 #[o.v, o'.v] w fun e w' => e = .returned (.bool true) ∧ Below w.heap.size w w' := by
  have hb := ((Below.refl w.heap.size w).alloc (Nat.le_refl _) (.cells o.cells 35)).alloc (by simp) (.cells o'.cells 35)
  have hP1 := blk_alloc (blk_new w 35 o.cells) (.cells o'.cells 35)
  have hP2 := blk_new (w.alloc (.cells o.cells 35)) 35 o'.cells
  rw [show (w.alloc (.cells o.cells 35)).heap.size = w.heap.size + 1 from by simp] at hP2
  show Calls _ _ #[.agg o.cells, .agg o'.cells] w _
  obtain ⟨cs, hcs⟩ : ∃ cs, cs = o.cells := ⟨_, rfl⟩
  obtain ⟨cs', hcs'⟩ : ∃ cs', cs' = o'.cells := ⟨_, rfl⟩
  rw [← hcs, ← hcs'] at hP1 hP2 hb ⊢
  have HCS := Lib.hid hcs
  have HCS' := Lib.hid hcs'
  have HP1 := Lib.hid hP1
  have HP2 := Lib.hid hP2
  have HB := Lib.hid hb
  have HX := Lib.hid hx
  have HY := Lib.hid hy
  have HK := Lib.hid hk
  have HK' := Lib.hid hk'
  have HE := Lib.hid he
  have hsx := fun W => idn_eql o.epoch o.epoch W
  have hsf := fun W => idn_eql o.of_ o.of_ W
  have hss := fun W => sg_eql o.r o.s o.r o.s W
  have hfr := fun op a b xs ys W => idn_free op a b xs ys W
  have hfs := fun op a b xs ys W => sg_free op a b xs ys W
  rw [(nmAlike_iff _ _).2 rfl] at hsx hsf
  rw [show decide (o.r = o.r ∧ o.s = o.s) = true from by simp] at hss
  unfold nmv at hsx hsf
  clear hcs hcs' hP1 hP2 hb hx hy hk hk' he
  go_enter Tryz.func31, Tryz.ntmps31
  have c0 := (HP1.out.cell 0).trans (at_cs HCS.out o.c0)
  have d0 := (HP2.out.cell 0).trans (at_cs HCS'.out o'.c0)
  rw [show o'.by_ = o.by_ from (congrArg Er.by_ HE.out).symm] at d0
  have c1 := (HP1.out.cell 1).trans (at_cs HCS.out o.c1)
  have d1 := (HP2.out.cell 1).trans (at_cs HCS'.out o'.c1)
  rw [show o'.seq = o.seq from (congrArg Er.seq HE.out).symm] at d1
  have c2 := (HP1.out.cell 2).trans (at_cs HCS.out o.c2)
  have d2 := (HP2.out.cell 2).trans (at_cs HCS'.out o'.c2)
  rw [show o'.kind = o.kind from (congrArg Er.kind HE.out).symm] at d2
  have c3 := (HP1.out.cell 3).trans (at_cs HCS.out o.c3)
  have d3 := (HP2.out.cell 3).trans (at_cs HCS'.out o'.c3)
  rw [show o'.at_ = o.at_ from (congrArg Er.at_ HE.out).symm] at d3
  have c4 := (HP1.out.cell 4).trans (at_cs HCS.out o.c4)
  have d4 := (HP2.out.cell 4).trans (at_cs HCS'.out o'.c4)
  have HC := Lib.hid (eq_nm o.past o'.past (HX.out.past.bf (Bf.below HB.out)) (HY.out.past.bf (Bf.below HB.out)) (Nat.le_trans HK.out.past.1 (by decide)) (Nat.le_trans HK'.out.past.1 (by decide)))
  go_wp2_with fail
  refine (HC.out).mono ?_
  rintro e w1 ⟨r, rfl, hr, hb⟩
  have hrt : r = true := hr.2 (congrArg Er.past HE.out)
  subst hrt
  have HP1' := Lib.hid (HP1.out.below hb HP1.out.lt)
  have HP2' := Lib.hid (HP2.out.below hb HP2.out.lt)
  have HB' := Lib.hid (HB.out.trans (hb.mono HB.out.size))
  clear HP1 HP2 HB HC hr hb c0 d0 c1 d1 c2 d2 c3 d3 c4 d4
  have HP1 := HP1'
  have HP2 := HP2'
  have HB := HB'
  clear HP1' HP2' HB'
  have c5 := (HP1.out.cell 5).trans (at_cs HCS.out o.c5)
  have d5 := (HP2.out.cell 5).trans (at_cs HCS'.out o'.c5)
  rw [show o'.dev = o.dev from (congrArg Er.dev HE.out).symm] at d5
  have c6 := (HP1.out.cell 6).trans (at_cs HCS.out o.c6)
  have d6 := (HP2.out.cell 6).trans (at_cs HCS'.out o'.c6)
  rw [show o'.old = o.old from (congrArg Er.old HE.out).symm] at d6
  have c7 := (HP1.out.cell 7).trans (at_cs HCS.out o.c7)
  have d7 := (HP2.out.cell 7).trans (at_cs HCS'.out o'.c7)
  rw [show o'.mem = o.mem from (congrArg Er.mem HE.out).symm] at d7
  have c8 := (HP1.out.cell 8).trans (at_cs HCS.out o.c8)
  have d8 := (HP2.out.cell 8).trans (at_cs HCS'.out o'.c8)
  rw [show o'.role = o.role from (congrArg Er.role HE.out).symm] at d8
  have c9 := (HP1.out.cell 9).trans (at_cs HCS.out o.c9)
  have d9 := (HP2.out.cell 9).trans (at_cs HCS'.out o'.c9)
  have HC := Lib.hid (eq_nd o.path o'.path (HX.out.path.bf (Bf.below HB.out)) (HY.out.path.bf (Bf.below HB.out)) (nd_len HK.out) (nd_len HK'.out) (fun z hz => ⟨(HX.out.pathB z hz).bf (Bf.below HB.out), HK.out.path.2 _ (List.mem_map_of_mem hz)⟩) (fun z hz => ⟨(HY.out.pathB z hz).bf (Bf.below HB.out), HK'.out.path.2 _ (List.mem_map_of_mem hz)⟩))
  go_wp2_with fail
  refine (HC.out).mono ?_
  rintro e w2 ⟨r, rfl, hr, hb⟩
  have hrt : r = true := hr.2 (congrArg Er.path HE.out)
  subst hrt
  have HP1' := Lib.hid (HP1.out.below hb HP1.out.lt)
  have HP2' := Lib.hid (HP2.out.below hb HP2.out.lt)
  have HB' := Lib.hid (HB.out.trans (hb.mono HB.out.size))
  clear HP1 HP2 HB HC hr hb c5 d5 c6 d6 c7 d7 c8 d8 c9 d9
  have HP1 := HP1'
  have HP2 := HP2'
  have HB := HB'
  clear HP1' HP2' HB'
  have c10 := (HP1.out.cell 10).trans (at_cs HCS.out o.c10)
  have d10 := (HP2.out.cell 10).trans (at_cs HCS'.out o'.c10)
  rw [show o'.epoch = o.epoch from (congrArg Er.epoch HE.out).symm] at d10
  have c11 := (HP1.out.cell 11).trans (at_cs HCS.out o.c11)
  have d11 := (HP2.out.cell 11).trans (at_cs HCS'.out o'.c11)
  rw [show o'.epoch = o.epoch from (congrArg Er.epoch HE.out).symm] at d11
  have c12 := (HP1.out.cell 12).trans (at_cs HCS.out o.c12)
  have d12 := (HP2.out.cell 12).trans (at_cs HCS'.out o'.c12)
  rw [show o'.epoch = o.epoch from (congrArg Er.epoch HE.out).symm] at d12
  have c13 := (HP1.out.cell 13).trans (at_cs HCS.out o.c13)
  have d13 := (HP2.out.cell 13).trans (at_cs HCS'.out o'.c13)
  rw [show o'.n = o.n from (congrArg Er.n HE.out).symm] at d13
  have c14 := (HP1.out.cell 14).trans (at_cs HCS.out o.c14)
  have d14 := (HP2.out.cell 14).trans (at_cs HCS'.out o'.c14)
  have HC := Lib.hid (eq_bytes o.body o'.body (HX.out.body.bf (Bf.below HB.out)) (HY.out.body.bf (Bf.below HB.out)))
  go_wp2_with fail
  refine (HC.out).mono ?_
  rintro e w3 ⟨r, rfl, hr, hb⟩
  have hrt : r = true := hr.2 (congrArg Er.body HE.out)
  subst hrt
  have HP1' := Lib.hid (HP1.out.below hb HP1.out.lt)
  have HP2' := Lib.hid (HP2.out.below hb HP2.out.lt)
  have HB' := Lib.hid (HB.out.trans (hb.mono HB.out.size))
  clear HP1 HP2 HB HC hr hb c10 d10 c11 d11 c12 d12 c13 d13 c14 d14
  have HP1 := HP1'
  have HP2 := HP2'
  have HB := HB'
  clear HP1' HP2' HB'
  have c15 := (HP1.out.cell 15).trans (at_cs HCS.out o.c15)
  have d15 := (HP2.out.cell 15).trans (at_cs HCS'.out o'.c15)
  have HC := Lib.hid (eq_u64 o.refs o'.refs (HX.out.refs.bf (Bf.below HB.out)) (HY.out.refs.bf (Bf.below HB.out)) (Nat.le_trans HK.out.refs.1 (by decide)) (Nat.le_trans HK'.out.refs.1 (by decide)))
  go_wp2_with fail
  refine (HC.out).mono ?_
  rintro e w4 ⟨r, rfl, hr, hb⟩
  have hrt : r = true := hr.2 (congrArg Er.refs HE.out)
  subst hrt
  have HP1' := Lib.hid (HP1.out.below hb HP1.out.lt)
  have HP2' := Lib.hid (HP2.out.below hb HP2.out.lt)
  have HB' := Lib.hid (HB.out.trans (hb.mono HB.out.size))
  clear HP1 HP2 HB HC hr hb c15 d15
  have HP1 := HP1'
  have HP2 := HP2'
  have HB := HB'
  clear HP1' HP2' HB'
  have c16 := (HP1.out.cell 16).trans (at_cs HCS.out o.c16)
  have d16 := (HP2.out.cell 16).trans (at_cs HCS'.out o'.c16)
  rw [show o'.of_ = o.of_ from (congrArg Er.of_ HE.out).symm] at d16
  have c17 := (HP1.out.cell 17).trans (at_cs HCS.out o.c17)
  have d17 := (HP2.out.cell 17).trans (at_cs HCS'.out o'.c17)
  rw [show o'.of_ = o.of_ from (congrArg Er.of_ HE.out).symm] at d17
  have c18 := (HP1.out.cell 18).trans (at_cs HCS.out o.c18)
  have d18 := (HP2.out.cell 18).trans (at_cs HCS'.out o'.c18)
  rw [show o'.of_ = o.of_ from (congrArg Er.of_ HE.out).symm] at d18
  have c19 := (HP1.out.cell 19).trans (at_cs HCS.out o.c19)
  have d19 := (HP2.out.cell 19).trans (at_cs HCS'.out o'.c19)
  have HC := Lib.hid (eq_int o.guards o'.guards (HX.out.guards.bf (Bf.below HB.out)) (HY.out.guards.bf (Bf.below HB.out)) (Nat.le_trans HK.out.guards.1 (by decide)) (Nat.le_trans HK'.out.guards.1 (by decide)))
  go_wp2_with fail
  refine (HC.out).mono ?_
  rintro e w5 ⟨r, rfl, hr, hb⟩
  have hrt : r = true := hr.2 (congrArg Er.guards HE.out)
  subst hrt
  have HP1' := Lib.hid (HP1.out.below hb HP1.out.lt)
  have HP2' := Lib.hid (HP2.out.below hb HP2.out.lt)
  have HB' := Lib.hid (HB.out.trans (hb.mono HB.out.size))
  clear HP1 HP2 HB HC hr hb c16 d16 c17 d17 c18 d18 c19 d19
  have HP1 := HP1'
  have HP2 := HP2'
  have HB := HB'
  clear HP1' HP2' HB'
  have c20 := (HP1.out.cell 20).trans (at_cs HCS.out o.c20)
  have d20 := (HP2.out.cell 20).trans (at_cs HCS'.out o'.c20)
  rw [show o'.need = o.need from (congrArg Er.need HE.out).symm] at d20
  have c21 := (HP1.out.cell 21).trans (at_cs HCS.out o.c21)
  have d21 := (HP2.out.cell 21).trans (at_cs HCS'.out o'.c21)
  rw [show o'.wait = o.wait from (congrArg Er.wait HE.out).symm] at d21
  have c22 := (HP1.out.cell 22).trans (at_cs HCS.out o.c22)
  have d22 := (HP2.out.cell 22).trans (at_cs HCS'.out o'.c22)
  have HC := Lib.hid (eq_bx o.boxes o'.boxes (HX.out.boxes.bf (Bf.below HB.out)) (HY.out.boxes.bf (Bf.below HB.out)) (Nat.le_trans HK.out.boxes.1 (by decide)) (Nat.le_trans HK'.out.boxes.1 (by decide)))
  go_wp2_with fail
  refine (HC.out).mono ?_
  rintro e w6 ⟨r, rfl, hr, hb⟩
  have hrt : r = true := hr.2 (congrArg Er.boxes HE.out)
  subst hrt
  have HP1' := Lib.hid (HP1.out.below hb HP1.out.lt)
  have HP2' := Lib.hid (HP2.out.below hb HP2.out.lt)
  have HB' := Lib.hid (HB.out.trans (hb.mono HB.out.size))
  clear HP1 HP2 HB HC hr hb c20 d20 c21 d21 c22 d22
  have HP1 := HP1'
  have HP2 := HP2'
  have HB := HB'
  clear HP1' HP2' HB'
  have c23 := (HP1.out.cell 23).trans (at_cs HCS.out o.c23)
  have d23 := (HP2.out.cell 23).trans (at_cs HCS'.out o'.c23)
  rw [show o'.pub = o.pub from (congrArg Er.pub HE.out).symm] at d23
  have c24 := (HP1.out.cell 24).trans (at_cs HCS.out o.c24)
  have d24 := (HP2.out.cell 24).trans (at_cs HCS'.out o'.c24)
  have HC := Lib.hid (eq_sd o.hist o'.hist (HX.out.hist.bf (Bf.below HB.out)) (HY.out.hist.bf (Bf.below HB.out)) (sd_len HK.out) (sd_len HK'.out) (fun z hz => ⟨(HX.out.histB z hz).bf (Bf.below HB.out), HK.out.hist.2 _ (List.mem_map_of_mem hz)⟩) (fun z hz => ⟨(HY.out.histB z hz).bf (Bf.below HB.out), HK'.out.hist.2 _ (List.mem_map_of_mem hz)⟩))
  go_wp2_with fail
  refine (HC.out).mono ?_
  rintro e w7 ⟨r, rfl, hr, hb⟩
  have hrt : r = true := hr.2 (congrArg Er.hist HE.out)
  subst hrt
  have HP1' := Lib.hid (HP1.out.below hb HP1.out.lt)
  have HP2' := Lib.hid (HP2.out.below hb HP2.out.lt)
  have HB' := Lib.hid (HB.out.trans (hb.mono HB.out.size))
  clear HP1 HP2 HB HC hr hb c23 d23 c24 d24
  have HP1 := HP1'
  have HP2 := HP2'
  have HB := HB'
  clear HP1' HP2' HB'
  have c25 := (HP1.out.cell 25).trans (at_cs HCS.out o.c25)
  have d25 := (HP2.out.cell 25).trans (at_cs HCS'.out o'.c25)
  rw [show o'.r = o.r from (congrArg Er.r HE.out).symm] at d25
  have c26 := (HP1.out.cell 26).trans (at_cs HCS.out o.c26)
  have d26 := (HP2.out.cell 26).trans (at_cs HCS'.out o'.c26)
  rw [show o'.s = o.s from (congrArg Er.s HE.out).symm] at d26
  go_wp2
  go_ret
  exact ⟨rfl, HB.out⟩
end Ot
end Go.Proofs.YtkicjjcangkneaaGreatDoor
