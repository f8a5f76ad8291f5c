/-
  The walk of the law SpanAlgebra: it returns true for all ranges, and no block that was there before has changed.
-/
import Derived.Test.YtkkinnjjanbmjaaAlgH
import Derived.WalkKit
import Derived.WalkSpells
import Derived.WalkLawsBesides
import Derived.BigQuiet
import Derived.Deep.QuietTactic
import Derived.Deep.RegionHeld3
import Derived.Deep.DeepCutAuto
import Derived.Deep.DrawnRows
import Derived.Lib.Hide
namespace Go.Proofs.Ytkkinnjjanbmjaa
open Go.RowKit

/-- a block of three cells that the call itself made -/
structure Blk3 (g : Nat) (a b c : Int) (w : World) : Prop where
  size : g < w.heap.size
  c0 : w.cell? ⟨g, 0, none⟩ = some (.int .i64 a)
  c1 : w.cell? ⟨g, 1, none⟩ = some (.int .i64 b)
  c2 : w.cell? ⟨g, 2, none⟩ = some (.int .i64 c)
theorem Blk3.keep {g : Nat} {a b c : Int} {w w1 : World} (k : Blk3 g a b c w) (hb : Below w.heap.size w w1) : Blk3 g a b c w1 :=
  ⟨Nat.lt_of_lt_of_le k.size hb.size, (hb.cell (p := ⟨g, 0, none⟩) k.size).trans k.c0, (hb.cell (p := ⟨g, 1, none⟩) k.size).trans k.c1, (hb.cell (p := ⟨g, 2, none⟩) k.size).trans k.c2⟩
theorem Blk3.new (a b c : Int) (t : TypeId) (w : World) : Blk3 w.heap.size a b c (w.alloc (.cells #[.int .i64 a, .int .i64 b, .int .i64 c] t)) := by
  constructor <;> simp [go_sem]
theorem three_new (l1 h1 s1 l2 h2 s2 l3 h3 s3 : Int) (t : TypeId) (w : World) :
    Below w.heap.size w (((w.alloc (.cells #[.int .i64 l1, .int .i64 h1, .int .i64 s1] t)).alloc (.cells #[.int .i64 l2, .int .i64 h2, .int .i64 s2] t)).alloc (.cells #[.int .i64 l3, .int .i64 h3, .int .i64 s3] t)) ∧
    Blk3 w.heap.size l1 h1 s1 (((w.alloc (.cells #[.int .i64 l1, .int .i64 h1, .int .i64 s1] t)).alloc (.cells #[.int .i64 l2, .int .i64 h2, .int .i64 s2] t)).alloc (.cells #[.int .i64 l3, .int .i64 h3, .int .i64 s3] t)) ∧
    Blk3 (w.heap.size + 1) l2 h2 s2 (((w.alloc (.cells #[.int .i64 l1, .int .i64 h1, .int .i64 s1] t)).alloc (.cells #[.int .i64 l2, .int .i64 h2, .int .i64 s2] t)).alloc (.cells #[.int .i64 l3, .int .i64 h3, .int .i64 s3] t)) ∧
    Blk3 (w.heap.size + 1 + 1) l3 h3 s3 (((w.alloc (.cells #[.int .i64 l1, .int .i64 h1, .int .i64 s1] t)).alloc (.cells #[.int .i64 l2, .int .i64 h2, .int .i64 s2] t)).alloc (.cells #[.int .i64 l3, .int .i64 h3, .int .i64 s3] t)) := by
  refine ⟨(((Below.refl _ _).alloc (Nat.le_refl _) _).alloc (by simp) _).alloc (by simp; omega) _, ?_, ?_, ?_⟩
  · constructor
    · simp; omega
    all_goals simp [go_sem]
  · constructor
    · simp
    all_goals simp [go_sem]
  · constructor <;> simp [go_sem]

set_option maxRecDepth 100000 in
set_option maxHeartbeats 2000000 in
theorem algBadA (l1 h1 s1 l2 h2 s2 l3 h3 s3 : Int) (w : World) (hl1 : I64 l1) (hh1 : I64 h1) (hs1 : I64 s1) (hl2 : I64 l2) (hh2 : I64 h2) (hs2 : I64 s2) (hl3 : I64 l3) (hh3 : I64 h3) (hs3 : I64 s3) (hk : ¬ chk l1 h1 s1 = 0) :
    Calls Try.prog 9 #[.agg #[.int .i64 l1, .int .i64 h1, .int .i64 s1], .agg #[.int .i64 l2, .int .i64 h2, .int .i64 s2], .agg #[.int .i64 l3, .int .i64 h3, .int .i64 s3]] w fun e w' => e = .returned (.bool true) ∧ Below w.heap.size w w' := by
  have hn : (chk l1 h1 s1 != 0) = true := by simp [hk]
  clear hk
  go_enter Try.func9, Try.ntmps9
  go_upto_region 1 with fail
  obtain ⟨hbw, ka, kb, kc⟩ := three_new l1 h1 s1 l2 h2 s2 l3 h3 s3 23 w
  have WW := Lib.hid hbw
  have Ka := Lib.hid ka
  have Kb := Lib.hid kb
  have Kc := Lib.hid kc
  have Z := Lib.hid hbw.size
  clear hbw ka kb kc
  generalize ((w.alloc (.cells #[.int .i64 l1, .int .i64 h1, .int .i64 s1] 23)).alloc (.cells #[.int .i64 l2, .int .i64 h2, .int .i64 s2] 23)).alloc (.cells #[.int .i64 l3, .int .i64 h3, .int .i64 s3] 23) = u0 at *
  have pa0 := Ka.out.c0
  have pa1 := Ka.out.c1
  have pa2 := Ka.out.c2
  go_wp2_with fail
  refine (check64 _ _ _ _ hl1 hh1 hs1).mono ?_
  rintro e u1 ⟨rfl, hb1⟩
  clear pa0 pa1 pa2
  have hb1 : Below u0.heap.size u0 u1 := ⟨hb1.os, hb1.tape, hb1.output, hb1.size, hb1.block⟩
  have Ka := Lib.hid (Ka.out.keep hb1)
  have Kb := Lib.hid (Kb.out.keep hb1)
  have Kc := Lib.hid (Kc.out.keep hb1)
  have WW := Lib.hid (WW.out.trans (hb1.mono Z.out))
  have Z := Lib.hid (Nat.le_trans Z.out hb1.size)
  clear hb1
  go_wp2_with fail
  refine (awake_any _).mono ?_
  rintro e u2 ⟨rfl, hb2⟩
  have hb2 : Below u1.heap.size u1 u2 := ⟨hb2.os, hb2.tape, hb2.output, hb2.size, hb2.block⟩
  have Ka := Lib.hid (Ka.out.keep hb2)
  have Kb := Lib.hid (Kb.out.keep hb2)
  have Kc := Lib.hid (Kc.out.keep hb2)
  have WW := Lib.hid (WW.out.trans (hb2.mono Z.out))
  have Z := Lib.hid (Nat.le_trans Z.out hb2.size)
  clear hb2
  go_wp2
  go_ret
  exact ⟨rfl, WW.out⟩

set_option maxRecDepth 100000 in
set_option maxHeartbeats 2000000 in
theorem algBadB (l1 h1 s1 l2 h2 s2 l3 h3 s3 : Int) (w : World) (hl1 : I64 l1) (hh1 : I64 h1) (hs1 : I64 s1) (hl2 : I64 l2) (hh2 : I64 h2) (hs2 : I64 s2) (hl3 : I64 l3) (hh3 : I64 h3) (hs3 : I64 s3) (hA : Hid (chk l1 h1 s1 = 0)) (hk : ¬ chk l2 h2 s2 = 0) :
    Calls Try.prog 9 #[.agg #[.int .i64 l1, .int .i64 h1, .int .i64 s1], .agg #[.int .i64 l2, .int .i64 h2, .int .i64 s2], .agg #[.int .i64 l3, .int .i64 h3, .int .i64 s3]] w fun e w' => e = .returned (.bool true) ∧ Below w.heap.size w w' := by
  have hn : (chk l2 h2 s2 != 0) = true := by simp [hk]
  clear hk
  go_enter Try.func9, Try.ntmps9
  go_upto_region 1 with fail
  obtain ⟨hbw, ka, kb, kc⟩ := three_new l1 h1 s1 l2 h2 s2 l3 h3 s3 23 w
  have WW := Lib.hid hbw
  have Ka := Lib.hid ka
  have Kb := Lib.hid kb
  have Kc := Lib.hid kc
  have Z := Lib.hid hbw.size
  clear hbw ka kb kc
  generalize ((w.alloc (.cells #[.int .i64 l1, .int .i64 h1, .int .i64 s1] 23)).alloc (.cells #[.int .i64 l2, .int .i64 h2, .int .i64 s2] 23)).alloc (.cells #[.int .i64 l3, .int .i64 h3, .int .i64 s3] 23) = u0 at *
  have pa0 := Ka.out.c0
  have pa1 := Ka.out.c1
  have pa2 := Ka.out.c2
  have pb0 := Kb.out.c0
  have pb1 := Kb.out.c1
  have pb2 := Kb.out.c2
  go_wp2_with fail
  refine (check_ok _ _ _ _ hl1 hh1 hs1 hA).mono ?_
  rintro e u1 ⟨rfl, hb1⟩
  clear pa0 pa1 pa2 pb0 pb1 pb2
  have hb1 : Below u0.heap.size u0 u1 := ⟨hb1.os, hb1.tape, hb1.output, hb1.size, hb1.block⟩
  have Ka := Lib.hid (Ka.out.keep hb1)
  have Kb := Lib.hid (Kb.out.keep hb1)
  have Kc := Lib.hid (Kc.out.keep hb1)
  have WW := Lib.hid (WW.out.trans (hb1.mono Z.out))
  have Z := Lib.hid (Nat.le_trans Z.out hb1.size)
  clear hb1
  have pb0 := Kb.out.c0
  have pb1 := Kb.out.c1
  have pb2 := Kb.out.c2
  go_wp2_with fail
  refine (check64 _ _ _ _ hl2 hh2 hs2).mono ?_
  rintro e u2 ⟨rfl, hb2⟩
  clear pb0 pb1 pb2
  have hb2 : Below u1.heap.size u1 u2 := ⟨hb2.os, hb2.tape, hb2.output, hb2.size, hb2.block⟩
  have Ka := Lib.hid (Ka.out.keep hb2)
  have Kb := Lib.hid (Kb.out.keep hb2)
  have Kc := Lib.hid (Kc.out.keep hb2)
  have WW := Lib.hid (WW.out.trans (hb2.mono Z.out))
  have Z := Lib.hid (Nat.le_trans Z.out hb2.size)
  clear hb2
  go_wp2_with fail
  refine (awake_any _).mono ?_
  rintro e u3 ⟨rfl, hb3⟩
  have hb3 : Below u2.heap.size u2 u3 := ⟨hb3.os, hb3.tape, hb3.output, hb3.size, hb3.block⟩
  have Ka := Lib.hid (Ka.out.keep hb3)
  have Kb := Lib.hid (Kb.out.keep hb3)
  have Kc := Lib.hid (Kc.out.keep hb3)
  have WW := Lib.hid (WW.out.trans (hb3.mono Z.out))
  have Z := Lib.hid (Nat.le_trans Z.out hb3.size)
  clear hb3
  go_wp2
  go_ret
  exact ⟨rfl, WW.out⟩

set_option maxRecDepth 100000 in
set_option maxHeartbeats 2000000 in
theorem algBadC (l1 h1 s1 l2 h2 s2 l3 h3 s3 : Int) (w : World) (hl1 : I64 l1) (hh1 : I64 h1) (hs1 : I64 s1) (hl2 : I64 l2) (hh2 : I64 h2) (hs2 : I64 s2) (hl3 : I64 l3) (hh3 : I64 h3) (hs3 : I64 s3) (hA : Hid (chk l1 h1 s1 = 0)) (hB : Hid (chk l2 h2 s2 = 0)) (hk : ¬ chk l3 h3 s3 = 0) :
    Calls Try.prog 9 #[.agg #[.int .i64 l1, .int .i64 h1, .int .i64 s1], .agg #[.int .i64 l2, .int .i64 h2, .int .i64 s2], .agg #[.int .i64 l3, .int .i64 h3, .int .i64 s3]] w fun e w' => e = .returned (.bool true) ∧ Below w.heap.size w w' := by
  have hn : (chk l3 h3 s3 != 0) = true := by simp [hk]
  clear hk
  go_enter Try.func9, Try.ntmps9
  go_upto_region 1 with fail
  obtain ⟨hbw, ka, kb, kc⟩ := three_new l1 h1 s1 l2 h2 s2 l3 h3 s3 23 w
  have WW := Lib.hid hbw
  have Ka := Lib.hid ka
  have Kb := Lib.hid kb
  have Kc := Lib.hid kc
  have Z := Lib.hid hbw.size
  clear hbw ka kb kc
  generalize ((w.alloc (.cells #[.int .i64 l1, .int .i64 h1, .int .i64 s1] 23)).alloc (.cells #[.int .i64 l2, .int .i64 h2, .int .i64 s2] 23)).alloc (.cells #[.int .i64 l3, .int .i64 h3, .int .i64 s3] 23) = u0 at *
  have pa0 := Ka.out.c0
  have pa1 := Ka.out.c1
  have pa2 := Ka.out.c2
  have pb0 := Kb.out.c0
  have pb1 := Kb.out.c1
  have pb2 := Kb.out.c2
  go_wp2_with fail
  refine (check_ok _ _ _ _ hl1 hh1 hs1 hA).mono ?_
  rintro e u1 ⟨rfl, hb1⟩
  clear pa0 pa1 pa2 pb0 pb1 pb2
  have hb1 : Below u0.heap.size u0 u1 := ⟨hb1.os, hb1.tape, hb1.output, hb1.size, hb1.block⟩
  have Ka := Lib.hid (Ka.out.keep hb1)
  have Kb := Lib.hid (Kb.out.keep hb1)
  have Kc := Lib.hid (Kc.out.keep hb1)
  have WW := Lib.hid (WW.out.trans (hb1.mono Z.out))
  have Z := Lib.hid (Nat.le_trans Z.out hb1.size)
  clear hb1
  have pb0 := Kb.out.c0
  have pb1 := Kb.out.c1
  have pb2 := Kb.out.c2
  have pc0 := Kc.out.c0
  have pc1 := Kc.out.c1
  have pc2 := Kc.out.c2
  go_wp2_with fail
  refine (check_ok _ _ _ _ hl2 hh2 hs2 hB).mono ?_
  rintro e u2 ⟨rfl, hb2⟩
  clear pb0 pb1 pb2 pc0 pc1 pc2
  have hb2 : Below u1.heap.size u1 u2 := ⟨hb2.os, hb2.tape, hb2.output, hb2.size, hb2.block⟩
  have Ka := Lib.hid (Ka.out.keep hb2)
  have Kb := Lib.hid (Kb.out.keep hb2)
  have Kc := Lib.hid (Kc.out.keep hb2)
  have WW := Lib.hid (WW.out.trans (hb2.mono Z.out))
  have Z := Lib.hid (Nat.le_trans Z.out hb2.size)
  clear hb2
  have pc0 := Kc.out.c0
  have pc1 := Kc.out.c1
  have pc2 := Kc.out.c2
  go_wp2_with fail
  refine (check64 _ _ _ _ hl3 hh3 hs3).mono ?_
  rintro e u3 ⟨rfl, hb3⟩
  clear pc0 pc1 pc2
  have hb3 : Below u2.heap.size u2 u3 := ⟨hb3.os, hb3.tape, hb3.output, hb3.size, hb3.block⟩
  have Ka := Lib.hid (Ka.out.keep hb3)
  have Kb := Lib.hid (Kb.out.keep hb3)
  have Kc := Lib.hid (Kc.out.keep hb3)
  have WW := Lib.hid (WW.out.trans (hb3.mono Z.out))
  have Z := Lib.hid (Nat.le_trans Z.out hb3.size)
  clear hb3
  go_wp2_with fail
  refine (awake_any _).mono ?_
  rintro e u4 ⟨rfl, hb4⟩
  have hb4 : Below u3.heap.size u3 u4 := ⟨hb4.os, hb4.tape, hb4.output, hb4.size, hb4.block⟩
  have Ka := Lib.hid (Ka.out.keep hb4)
  have Kb := Lib.hid (Kb.out.keep hb4)
  have Kc := Lib.hid (Kc.out.keep hb4)
  have WW := Lib.hid (WW.out.trans (hb4.mono Z.out))
  have Z := Lib.hid (Nat.le_trans Z.out hb4.size)
  clear hb4
  go_wp2
  go_ret
  exact ⟨rfl, WW.out⟩

set_option maxRecDepth 100000 in
set_option maxHeartbeats 2000000 in
theorem algAll (l1 h1 s1 l2 h2 s2 l3 h3 s3 : Int) (w : World) (hl1 : I64 l1) (hh1 : I64 h1) (hs1 : I64 s1) (hl2 : I64 l2) (hh2 : I64 h2) (hs2 : I64 s2) (hl3 : I64 l3) (hh3 : I64 h3) (hs3 : I64 s3) (hA : Hid (chk l1 h1 s1 = 0)) (hB : Hid (chk l2 h2 s2 = 0)) (hC : Hid (chk l3 h3 s3 = 0)) :
    Calls Try.prog 9 #[.agg #[.int .i64 l1, .int .i64 h1, .int .i64 s1], .agg #[.int .i64 l2, .int .i64 h2, .int .i64 s2], .agg #[.int .i64 l3, .int .i64 h3, .int .i64 s3]] w fun e w' => e = .returned (.bool true) ∧ Below w.heap.size w w' := by
  go_enter Try.func9, Try.ntmps9
  go_upto_region 1 with fail
  obtain ⟨hbw, ka, kb, kc⟩ := three_new l1 h1 s1 l2 h2 s2 l3 h3 s3 23 w
  have WW := Lib.hid hbw
  have Ka := Lib.hid ka
  have Kb := Lib.hid kb
  have Kc := Lib.hid kc
  have Z := Lib.hid hbw.size
  clear hbw ka kb kc
  generalize ((w.alloc (.cells #[.int .i64 l1, .int .i64 h1, .int .i64 s1] 23)).alloc (.cells #[.int .i64 l2, .int .i64 h2, .int .i64 s2] 23)).alloc (.cells #[.int .i64 l3, .int .i64 h3, .int .i64 s3] 23) = u0 at *
  have pa0 := Ka.out.c0
  have pa1 := Ka.out.c1
  have pa2 := Ka.out.c2
  have pb0 := Kb.out.c0
  have pb1 := Kb.out.c1
  have pb2 := Kb.out.c2
  go_wp2_with fail
  refine (check_ok _ _ _ _ hl1 hh1 hs1 hA).mono ?_
  rintro e u1 ⟨rfl, hb1⟩
  clear pa0 pa1 pa2 pb0 pb1 pb2
  have hb1 : Below u0.heap.size u0 u1 := ⟨hb1.os, hb1.tape, hb1.output, hb1.size, hb1.block⟩
  have Ka := Lib.hid (Ka.out.keep hb1)
  have Kb := Lib.hid (Kb.out.keep hb1)
  have Kc := Lib.hid (Kc.out.keep hb1)
  have WW := Lib.hid (WW.out.trans (hb1.mono Z.out))
  have Z := Lib.hid (Nat.le_trans Z.out hb1.size)
  clear hb1
  have pb0 := Kb.out.c0
  have pb1 := Kb.out.c1
  have pb2 := Kb.out.c2
  have pc0 := Kc.out.c0
  have pc1 := Kc.out.c1
  have pc2 := Kc.out.c2
  go_wp2_with fail
  refine (check_ok _ _ _ _ hl2 hh2 hs2 hB).mono ?_
  rintro e u2 ⟨rfl, hb2⟩
  clear pb0 pb1 pb2 pc0 pc1 pc2
  have hb2 : Below u1.heap.size u1 u2 := ⟨hb2.os, hb2.tape, hb2.output, hb2.size, hb2.block⟩
  have Ka := Lib.hid (Ka.out.keep hb2)
  have Kb := Lib.hid (Kb.out.keep hb2)
  have Kc := Lib.hid (Kc.out.keep hb2)
  have WW := Lib.hid (WW.out.trans (hb2.mono Z.out))
  have Z := Lib.hid (Nat.le_trans Z.out hb2.size)
  clear hb2
  have pc0 := Kc.out.c0
  have pc1 := Kc.out.c1
  have pc2 := Kc.out.c2
  have pa0 := Ka.out.c0
  have pa1 := Ka.out.c1
  have pa2 := Ka.out.c2
  have pb0 := Kb.out.c0
  have pb1 := Kb.out.c1
  have pb2 := Kb.out.c2
  go_wp2_with fail
  refine (check_ok _ _ _ _ hl3 hh3 hs3 hC).mono ?_
  rintro e u3 ⟨rfl, hb3⟩
  clear pc0 pc1 pc2 pa0 pa1 pa2 pb0 pb1 pb2
  have hb3 : Below u2.heap.size u2 u3 := ⟨hb3.os, hb3.tape, hb3.output, hb3.size, hb3.block⟩
  have Ka := Lib.hid (Ka.out.keep hb3)
  have Kb := Lib.hid (Kb.out.keep hb3)
  have Kc := Lib.hid (Kc.out.keep hb3)
  have WW := Lib.hid (WW.out.trans (hb3.mono Z.out))
  have Z := Lib.hid (Nat.le_trans Z.out hb3.size)
  clear hb3
  have pa0 := Ka.out.c0
  have pa1 := Ka.out.c1
  have pa2 := Ka.out.c2
  have pb0 := Kb.out.c0
  have pb1 := Kb.out.c1
  have pb2 := Kb.out.c2
  go_wp2_with fail
  refine (Intersect_ok _ _ _ _ _ _ _ hA hB).mono ?_
  rintro e u4 ⟨l4, h4, s4, m4, rfl, hb4⟩
  clear pa0 pa1 pa2 pb0 pb1 pb2
  have hb4 : Below u3.heap.size u3 u4 := ⟨hb4.os, hb4.tape, hb4.output, hb4.size, hb4.block⟩
  have Ka := Lib.hid (Ka.out.keep hb4)
  have Kb := Lib.hid (Kb.out.keep hb4)
  have Kc := Lib.hid (Kc.out.keep hb4)
  have WW := Lib.hid (WW.out.trans (hb4.mono Z.out))
  have Z := Lib.hid (Nat.le_trans Z.out hb4.size)
  clear hb4
  have k4 := Lib.hid m4.1
  have M4 := Lib.hid m4.2
  clear m4
  go_upto_region 4 with fail
  have hb5 := below_new u4 (.cells #[.int .i64 l4, .int .i64 h4, .int .i64 s4] 23)
  have Kab := Lib.hid (Blk3.new l4 h4 s4 23 u4)
  have Hab : Hid (u4.heap.size = u4.heap.size) := rfl
  have Ka := Lib.hid (Ka.out.keep hb5)
  have Kb := Lib.hid (Kb.out.keep hb5)
  have Kc := Lib.hid (Kc.out.keep hb5)
  have WW := Lib.hid (WW.out.trans (hb5.mono Z.out))
  have Z := Lib.hid (Nat.le_trans Z.out hb5.size)
  clear hb5 Hab
  generalize u4.alloc (.cells #[.int .i64 l4, .int .i64 h4, .int .i64 s4] 23) = u5 at *
  have pa0 := Ka.out.c0
  have pa1 := Ka.out.c1
  have pa2 := Ka.out.c2
  have pb0 := Kb.out.c0
  have pb1 := Kb.out.c1
  have pb2 := Kb.out.c2
  go_wp2_with fail
  refine (Intersect_ok _ _ _ _ _ _ _ hB hA).mono ?_
  rintro e u6 ⟨l5, h5, s5, m5, rfl, hb6⟩
  clear pa0 pa1 pa2 pb0 pb1 pb2
  have hb6 : Below u5.heap.size u5 u6 := ⟨hb6.os, hb6.tape, hb6.output, hb6.size, hb6.block⟩
  have Ka := Lib.hid (Ka.out.keep hb6)
  have Kb := Lib.hid (Kb.out.keep hb6)
  have Kc := Lib.hid (Kc.out.keep hb6)
  have Kab := Lib.hid (Kab.out.keep hb6)
  have WW := Lib.hid (WW.out.trans (hb6.mono Z.out))
  have Z := Lib.hid (Nat.le_trans Z.out hb6.size)
  clear hb6
  obtain ⟨e1, e2, e3⟩ := canon k4.out m5.1 (fun n => (M4.out n).trans (Iff.trans ⟨fun x => ⟨x.2, x.1⟩, fun x => ⟨x.2, x.1⟩⟩ (m5.2 n).symm))
  have k5 := Lib.hid m5.1
  have Z45 := Lib.hid e3
  clear m5 e3
  subst e1
  subst e2
  go_upto_region 5 with fail
  have hb7 := below_new u6 (.cells #[.int .i64 l4, .int .i64 h4, .int .i64 s5] 23)
  have Kba := Lib.hid (Blk3.new l4 h4 s5 23 u6)
  have Hba : Hid (u6.heap.size = u6.heap.size) := rfl
  have Ka := Lib.hid (Ka.out.keep hb7)
  have Kb := Lib.hid (Kb.out.keep hb7)
  have Kc := Lib.hid (Kc.out.keep hb7)
  have Kab := Lib.hid (Kab.out.keep hb7)
  have WW := Lib.hid (WW.out.trans (hb7.mono Z.out))
  have Z := Lib.hid (Nat.le_trans Z.out hb7.size)
  clear hb7 Hba
  generalize u6.alloc (.cells #[.int .i64 l4, .int .i64 h4, .int .i64 s5] 23) = u7 at *
  have pb0 := Kb.out.c0
  have pb1 := Kb.out.c1
  have pb2 := Kb.out.c2
  have pc0 := Kc.out.c0
  have pc1 := Kc.out.c1
  have pc2 := Kc.out.c2
  go_wp2_with fail
  refine (Intersect_ok _ _ _ _ _ _ _ hB hC).mono ?_
  rintro e u8 ⟨l6, h6, s6, m6, rfl, hb8⟩
  clear pb0 pb1 pb2 pc0 pc1 pc2
  have hb8 : Below u7.heap.size u7 u8 := ⟨hb8.os, hb8.tape, hb8.output, hb8.size, hb8.block⟩
  have Ka := Lib.hid (Ka.out.keep hb8)
  have Kb := Lib.hid (Kb.out.keep hb8)
  have Kc := Lib.hid (Kc.out.keep hb8)
  have Kab := Lib.hid (Kab.out.keep hb8)
  have Kba := Lib.hid (Kba.out.keep hb8)
  have WW := Lib.hid (WW.out.trans (hb8.mono Z.out))
  have Z := Lib.hid (Nat.le_trans Z.out hb8.size)
  clear hb8
  have k6 := Lib.hid m6.1
  have M6 := Lib.hid m6.2
  clear m6
  go_upto_region 8 with fail
  have hb9 := below_new u8 (.cells #[.int .i64 l6, .int .i64 h6, .int .i64 s6] 23)
  have Kbc := Lib.hid (Blk3.new l6 h6 s6 23 u8)
  have Hbc : Hid (u8.heap.size = u8.heap.size) := rfl
  have Ka := Lib.hid (Ka.out.keep hb9)
  have Kb := Lib.hid (Kb.out.keep hb9)
  have Kc := Lib.hid (Kc.out.keep hb9)
  have Kab := Lib.hid (Kab.out.keep hb9)
  have Kba := Lib.hid (Kba.out.keep hb9)
  have WW := Lib.hid (WW.out.trans (hb9.mono Z.out))
  have Z := Lib.hid (Nat.le_trans Z.out hb9.size)
  clear hb9 Hbc
  generalize u8.alloc (.cells #[.int .i64 l6, .int .i64 h6, .int .i64 s6] 23) = u9 at *
  have pab0 := Kab.out.c0
  have pab1 := Kab.out.c1
  have pab2 := Kab.out.c2
  have pc0 := Kc.out.c0
  have pc1 := Kc.out.c1
  have pc2 := Kc.out.c2
  go_wp2_with fail
  refine (Intersect_ok _ _ _ _ _ _ _ k4 hC).mono ?_
  rintro e u10 ⟨l7, h7, s7, m7, rfl, hb10⟩
  clear pab0 pab1 pab2 pc0 pc1 pc2
  have hb10 : Below u9.heap.size u9 u10 := ⟨hb10.os, hb10.tape, hb10.output, hb10.size, hb10.block⟩
  have Ka := Lib.hid (Ka.out.keep hb10)
  have Kb := Lib.hid (Kb.out.keep hb10)
  have Kc := Lib.hid (Kc.out.keep hb10)
  have Kab := Lib.hid (Kab.out.keep hb10)
  have Kba := Lib.hid (Kba.out.keep hb10)
  have Kbc := Lib.hid (Kbc.out.keep hb10)
  have WW := Lib.hid (WW.out.trans (hb10.mono Z.out))
  have Z := Lib.hid (Nat.le_trans Z.out hb10.size)
  clear hb10
  have k7 := Lib.hid m7.1
  have M7 := Lib.hid m7.2
  clear m7
  go_upto_region 9 with fail
  have hb11 := below_new u10 (.cells #[.int .i64 l7, .int .i64 h7, .int .i64 s7] 23)
  have Kx := Lib.hid (Blk3.new l7 h7 s7 23 u10)
  have Hx : Hid (u10.heap.size = u10.heap.size) := rfl
  have Ka := Lib.hid (Ka.out.keep hb11)
  have Kb := Lib.hid (Kb.out.keep hb11)
  have Kc := Lib.hid (Kc.out.keep hb11)
  have Kab := Lib.hid (Kab.out.keep hb11)
  have Kba := Lib.hid (Kba.out.keep hb11)
  have Kbc := Lib.hid (Kbc.out.keep hb11)
  have WW := Lib.hid (WW.out.trans (hb11.mono Z.out))
  have Z := Lib.hid (Nat.le_trans Z.out hb11.size)
  clear hb11 Hx
  generalize u10.alloc (.cells #[.int .i64 l7, .int .i64 h7, .int .i64 s7] 23) = u11 at *
  have pa0 := Ka.out.c0
  have pa1 := Ka.out.c1
  have pa2 := Ka.out.c2
  have pbc0 := Kbc.out.c0
  have pbc1 := Kbc.out.c1
  have pbc2 := Kbc.out.c2
  go_wp2_with fail
  refine (Intersect_ok _ _ _ _ _ _ _ hA k6).mono ?_
  rintro e u12 ⟨l8, h8, s8, m8, rfl, hb12⟩
  clear pa0 pa1 pa2 pbc0 pbc1 pbc2
  have hb12 : Below u11.heap.size u11 u12 := ⟨hb12.os, hb12.tape, hb12.output, hb12.size, hb12.block⟩
  have Ka := Lib.hid (Ka.out.keep hb12)
  have Kb := Lib.hid (Kb.out.keep hb12)
  have Kc := Lib.hid (Kc.out.keep hb12)
  have Kab := Lib.hid (Kab.out.keep hb12)
  have Kba := Lib.hid (Kba.out.keep hb12)
  have Kbc := Lib.hid (Kbc.out.keep hb12)
  have Kx := Lib.hid (Kx.out.keep hb12)
  have WW := Lib.hid (WW.out.trans (hb12.mono Z.out))
  have Z := Lib.hid (Nat.le_trans Z.out hb12.size)
  clear hb12
  obtain ⟨e1, e2, e3⟩ := canon k7.out m8.1 (fun n => (M7.out n).trans (Iff.trans ⟨fun x => ⟨((M4.out n).1 x.1).1, (M6.out n).2 ⟨((M4.out n).1 x.1).2, x.2⟩⟩, fun x => ⟨(M4.out n).2 ⟨x.1, ((M6.out n).1 x.2).1⟩, ((M6.out n).1 x.2).2⟩⟩ (m8.2 n).symm))
  have k8 := Lib.hid m8.1
  have Z78 := Lib.hid e3
  clear m8 e3
  subst e1
  subst e2
  go_upto_region 10 with fail
  have hb13 := below_new u12 (.cells #[.int .i64 l7, .int .i64 h7, .int .i64 s8] 23)
  have Ky := Lib.hid (Blk3.new l7 h7 s8 23 u12)
  have Hy : Hid (u12.heap.size = u12.heap.size) := rfl
  have Ka := Lib.hid (Ka.out.keep hb13)
  have Kb := Lib.hid (Kb.out.keep hb13)
  have Kc := Lib.hid (Kc.out.keep hb13)
  have Kab := Lib.hid (Kab.out.keep hb13)
  have Kba := Lib.hid (Kba.out.keep hb13)
  have Kbc := Lib.hid (Kbc.out.keep hb13)
  have Kx := Lib.hid (Kx.out.keep hb13)
  have WW := Lib.hid (WW.out.trans (hb13.mono Z.out))
  have Z := Lib.hid (Nat.le_trans Z.out hb13.size)
  clear hb13 Hy
  generalize u12.alloc (.cells #[.int .i64 l7, .int .i64 h7, .int .i64 s8] 23) = u13 at *
  have b4 := chk_bounds k4.out
  have b5 := chk_bounds k5.out
  have b7 := chk_bounds k7.out
  have b8 := chk_bounds k8.out
  obtain ⟨n7, hn7⟩ : ∃ n, n = siz l7 h7 s7 := ⟨_, rfl⟩
  have N7 := Lib.hid hn7.symm
  have N8 := Lib.hid (Z78.out.symm.trans hn7.symm)
  clear hn7
  obtain ⟨n4, hn4⟩ : ∃ n, n = siz l4 h4 s4 := ⟨_, rfl⟩
  have N4 := Lib.hid hn4.symm
  have N5 := Lib.hid (Z45.out.symm.trans hn4.symm)
  clear hn4
  refine wp_region_held_drew (S := (fun w' => w'.cell? ⟨u10.heap.size, 0, none⟩ = some (.int .i64 l7) ∧ w'.cell? ⟨u10.heap.size, 1, none⟩ = some (.int .i64 h7) ∧ w'.cell? ⟨u10.heap.size, 2, none⟩ = some (.int .i64 s7) ∧ w'.cell? ⟨u12.heap.size, 0, none⟩ = some (.int .i64 l7) ∧ w'.cell? ⟨u12.heap.size, 1, none⟩ = some (.int .i64 h7) ∧ w'.cell? ⟨u12.heap.size, 2, none⟩ = some (.int .i64 s8) ∧ w'.cell? ⟨u4.heap.size, 0, none⟩ = some (.int .i64 l4) ∧ w'.cell? ⟨u4.heap.size, 1, none⟩ = some (.int .i64 h4) ∧ w'.cell? ⟨u4.heap.size, 2, none⟩ = some (.int .i64 s4) ∧ w'.cell? ⟨u6.heap.size, 0, none⟩ = some (.int .i64 l4) ∧ w'.cell? ⟨u6.heap.size, 1, none⟩ = some (.int .i64 h4) ∧ w'.cell? ⟨u6.heap.size, 2, none⟩ = some (.int .i64 s5))) (by kernel_rfl) ?_ (fun hHeld => ?_)
  · exact ⟨Kx.out.c0, Kx.out.c1, Kx.out.c2, Ky.out.c0, Ky.out.c1, Ky.out.c2, Kab.out.c0, Kab.out.c1, Kab.out.c2, Kba.out.c0, Kba.out.c1, Kba.out.c2⟩
  refine wpAnyH_take (i := 0) (oi := { dst := some 73, op := Op.move (Operand.tmp 8), type := 24, pos := "outright.go:132", after := #[], guard := none }) (v := ?_) rfl (by kernel_rfl) (by kernel_rfl) (by kernel_rfl) (fun _ _ _ h => h) (Or.inl ⟨by rfl, ?_⟩) (by assumption) ?_
  rotate_left
  · (intro w hSw; (try dsimp only at hSw); go_simp; first | done | with_reducible rfl)
  try simp only [Act.put, List.setIfInBounds_toArray, List.set_cons_zero, List.set_cons_succ]
  refine wpAnyH_take (i := 1) (oi := { dst := some 74, op := Op.binOp BinOp.neq 24 (Operand.tmp 73) (Operand.const (Value.int IntKind.i64 0)) 24, type := 4, pos := "outright.go:132", after := #[{ on := 0, ground := Ground.data }], guard := none }) (v := ?_) rfl (by kernel_rfl) (by kernel_rfl) (by kernel_rfl) (fun _ _ _ h => h) (Or.inl ⟨by rfl, ?_⟩) (by assumption) ?_
  rotate_left
  · (intro w hSw; (try dsimp only at hSw); go_simp; first | done | with_reducible rfl)
  try simp only [Act.put, List.setIfInBounds_toArray, List.set_cons_zero, List.set_cons_succ]
  refine wpAnyH_take (i := 2) (oi := { dst := some 75, op := Op.move (Operand.tmp 74), type := 4, pos := "outright.go:132", after := #[{ on := 1, ground := Ground.data }], guard := none }) (v := ?_) rfl (by kernel_rfl) (by kernel_rfl) (by kernel_rfl) (fun _ _ _ h => h) (Or.inl ⟨by rfl, ?_⟩) (by assumption) ?_
  rotate_left
  · (intro w hSw; (try dsimp only at hSw); go_simp; first | done | with_reducible rfl)
  try simp only [Act.put, List.setIfInBounds_toArray, List.set_cons_zero, List.set_cons_succ]
  refine wpAnyH_take (i := 3) (oi := { dst := some 76, op := Op.move (Operand.tmp 10), type := 24, pos := "outright.go:132", after := #[{ on := 2, ground := Ground.guard }], guard := some (2, false) }) (v := ?_) rfl (by kernel_rfl) (by kernel_rfl) (by kernel_rfl) (fun _ _ _ h => h) (Or.inl ⟨by rfl, ?_⟩) (by assumption) ?_
  rotate_left
  · (intro w hSw; (try dsimp only at hSw); go_simp; first | done | with_reducible rfl)
  try simp only [Act.put, List.setIfInBounds_toArray, List.set_cons_zero, List.set_cons_succ]
  refine wpAnyH_take (i := 4) (oi := { dst := some 77, op := Op.binOp BinOp.neq 24 (Operand.tmp 76) (Operand.const (Value.int IntKind.i64 0)) 24, type := 4, pos := "outright.go:132", after := #[{ on := 3, ground := Ground.data }, { on := 2, ground := Ground.guard }], guard := some (2, false) }) (v := ?_) rfl (by kernel_rfl) (by kernel_rfl) (by kernel_rfl) (fun _ _ _ h => h) (Or.inl ⟨by rfl, ?_⟩) (by assumption) ?_
  rotate_left
  · (intro w hSw; (try dsimp only at hSw); go_simp; first | done | with_reducible rfl)
  try simp only [Act.put, List.setIfInBounds_toArray, List.set_cons_zero, List.set_cons_succ]
  refine wpAnyH_take (i := 5) (oi := { dst := some 78, op := Op.pick (Operand.tmp 75) (Operand.const (Value.bool true)) (Operand.tmp 77), type := 4, pos := "outright.go:132", after := #[{ on := 2, ground := Ground.data }, { on := 4, ground := Ground.data }], guard := none }) (v := ?_) rfl (by kernel_rfl) (by kernel_rfl) (by kernel_rfl) (fun _ _ _ h => h) (Or.inl ⟨by rfl, ?_⟩) (by assumption) ?_
  rotate_left
  · (intro w hSw; (try dsimp only at hSw); go_simp; first | done | with_reducible rfl)
  try simp only [Act.put, List.setIfInBounds_toArray, List.set_cons_zero, List.set_cons_succ]
  refine wpAnyH_take (i := 6) (oi := { dst := some 79, op := Op.move (Operand.tmp 78), type := 4, pos := "outright.go:132", after := #[{ on := 5, ground := Ground.data }, { on := 2, ground := Ground.chain }], guard := none }) (v := ?_) rfl (by kernel_rfl) (by kernel_rfl) (by kernel_rfl) (fun _ _ _ h => h) (Or.inl ⟨by rfl, ?_⟩) (by assumption) ?_
  rotate_left
  · (intro w hSw; (try dsimp only at hSw); go_simp; first | done | with_reducible rfl)
  try simp only [Act.put, List.setIfInBounds_toArray, List.set_cons_zero, List.set_cons_succ]
  refine wpAnyH_take (i := 7) (oi := { dst := some 80, op := Op.fieldAddr 23 (Operand.tmp 13) 0, type := 0, pos := "outright.go:132", after := #[{ on := 6, ground := Ground.guard }], guard := some (6, false) }) (v := ?_) rfl (by kernel_rfl) (by kernel_rfl) (by kernel_rfl) (fun _ _ _ h => h) (Or.inl ⟨by rfl, ?_⟩) (by assumption) ?_
  rotate_left
  · (intro w hSw; (try dsimp only at hSw); go_simp; first | done | with_reducible rfl)
  try simp only [Act.put, List.setIfInBounds_toArray, List.set_cons_zero, List.set_cons_succ]
  refine wpAnyH_take (i := 8) (oi := { dst := some 81, op := Op.load 3 (Operand.tmp 80), type := 3, pos := "outright.go:132", after := #[{ on := 7, ground := Ground.data }, { on := 6, ground := Ground.guard }], guard := some (6, false) }) (v := ?_) rfl (by kernel_rfl) (by kernel_rfl) (by kernel_rfl) (fun _ _ _ h => h) (Or.inl ⟨by rfl, ?_⟩) (by assumption) ?_
  rotate_left
  · (intro w hSw; (try dsimp only at hSw); go_simp; first | done | with_reducible rfl)
  try simp only [Act.put, List.setIfInBounds_toArray, List.set_cons_zero, List.set_cons_succ]
  refine wpAnyH_take (i := 9) (oi := { dst := some 82, op := Op.fieldAddr 23 (Operand.tmp 14) 0, type := 0, pos := "outright.go:132", after := #[{ on := 6, ground := Ground.guard }], guard := some (6, false) }) (v := ?_) rfl (by kernel_rfl) (by kernel_rfl) (by kernel_rfl) (fun _ _ _ h => h) (Or.inl ⟨by rfl, ?_⟩) (by assumption) ?_
  rotate_left
  · (intro w hSw; (try dsimp only at hSw); go_simp; first | done | with_reducible rfl)
  try simp only [Act.put, List.setIfInBounds_toArray, List.set_cons_zero, List.set_cons_succ]
  refine wpAnyH_take (i := 10) (oi := { dst := some 83, op := Op.load 3 (Operand.tmp 82), type := 3, pos := "outright.go:132", after := #[{ on := 9, ground := Ground.data }, { on := 6, ground := Ground.guard }], guard := some (6, false) }) (v := ?_) rfl (by kernel_rfl) (by kernel_rfl) (by kernel_rfl) (fun _ _ _ h => h) (Or.inl ⟨by rfl, ?_⟩) (by assumption) ?_
  rotate_left
  · (intro w hSw; (try dsimp only at hSw); go_simp; first | done | with_reducible rfl)
  try simp only [Act.put, List.setIfInBounds_toArray, List.set_cons_zero, List.set_cons_succ]
  refine wpAnyH_take (i := 11) (oi := { dst := some 84, op := Op.binOp BinOp.neq 3 (Operand.tmp 81) (Operand.tmp 83) 3, type := 4, pos := "outright.go:132", after := #[{ on := 8, ground := Ground.data }, { on := 10, ground := Ground.data }, { on := 6, ground := Ground.guard }], guard := some (6, false) }) (v := ?_) rfl (by kernel_rfl) (by kernel_rfl) (by kernel_rfl) (fun _ _ _ h => h) (Or.inl ⟨by rfl, ?_⟩) (by assumption) ?_
  rotate_left
  · (intro w hSw; (try dsimp only at hSw); go_simp; first | done | with_reducible rfl)
  try simp only [Act.put, List.setIfInBounds_toArray, List.set_cons_zero, List.set_cons_succ]
  refine wpAnyH_take (i := 12) (oi := { dst := some 85, op := Op.pick (Operand.tmp 79) (Operand.const (Value.bool true)) (Operand.tmp 84), type := 4, pos := "outright.go:132", after := #[{ on := 6, ground := Ground.data }, { on := 11, ground := Ground.data }], guard := none }) (v := ?_) rfl (by kernel_rfl) (by kernel_rfl) (by kernel_rfl) (fun _ _ _ h => h) (Or.inl ⟨by rfl, ?_⟩) (by assumption) ?_
  rotate_left
  · (intro w hSw; (try dsimp only at hSw); go_simp; first | done | with_reducible rfl)
  try simp only [Act.put, List.setIfInBounds_toArray, List.set_cons_zero, List.set_cons_succ]
  refine wpAnyH_take (i := 13) (oi := { dst := some 86, op := Op.move (Operand.tmp 85), type := 4, pos := "outright.go:132", after := #[{ on := 12, ground := Ground.data }, { on := 6, ground := Ground.chain }], guard := none }) (v := ?_) rfl (by kernel_rfl) (by kernel_rfl) (by kernel_rfl) (fun _ _ _ h => h) (Or.inl ⟨by rfl, ?_⟩) (by assumption) ?_
  rotate_left
  · (intro w hSw; (try dsimp only at hSw); go_simp; first | done | with_reducible rfl)
  try simp only [Act.put, List.setIfInBounds_toArray, List.set_cons_zero, List.set_cons_succ]
  refine wpAnyH_take (i := 14) (oi := { dst := some 87, op := Op.fieldAddr 23 (Operand.tmp 13) 1, type := 0, pos := "outright.go:132", after := #[{ on := 13, ground := Ground.guard }], guard := some (13, false) }) (v := ?_) rfl (by kernel_rfl) (by kernel_rfl) (by kernel_rfl) (fun _ _ _ h => h) (Or.inl ⟨by rfl, ?_⟩) (by assumption) ?_
  rotate_left
  · (intro w hSw; (try dsimp only at hSw); go_simp; first | done | with_reducible rfl)
  try simp only [Act.put, List.setIfInBounds_toArray, List.set_cons_zero, List.set_cons_succ]
  refine wpAnyH_take (i := 15) (oi := { dst := some 88, op := Op.load 3 (Operand.tmp 87), type := 3, pos := "outright.go:132", after := #[{ on := 14, ground := Ground.data }, { on := 13, ground := Ground.guard }], guard := some (13, false) }) (v := ?_) rfl (by kernel_rfl) (by kernel_rfl) (by kernel_rfl) (fun _ _ _ h => h) (Or.inl ⟨by rfl, ?_⟩) (by assumption) ?_
  rotate_left
  · (intro w hSw; (try dsimp only at hSw); go_simp; first | done | with_reducible rfl)
  try simp only [Act.put, List.setIfInBounds_toArray, List.set_cons_zero, List.set_cons_succ]
  refine wpAnyH_take (i := 16) (oi := { dst := some 89, op := Op.fieldAddr 23 (Operand.tmp 14) 1, type := 0, pos := "outright.go:132", after := #[{ on := 13, ground := Ground.guard }], guard := some (13, false) }) (v := ?_) rfl (by kernel_rfl) (by kernel_rfl) (by kernel_rfl) (fun _ _ _ h => h) (Or.inl ⟨by rfl, ?_⟩) (by assumption) ?_
  rotate_left
  · (intro w hSw; (try dsimp only at hSw); go_simp; first | done | with_reducible rfl)
  try simp only [Act.put, List.setIfInBounds_toArray, List.set_cons_zero, List.set_cons_succ]
  refine wpAnyH_take (i := 17) (oi := { dst := some 90, op := Op.load 3 (Operand.tmp 89), type := 3, pos := "outright.go:132", after := #[{ on := 16, ground := Ground.data }, { on := 13, ground := Ground.guard }], guard := some (13, false) }) (v := ?_) rfl (by kernel_rfl) (by kernel_rfl) (by kernel_rfl) (fun _ _ _ h => h) (Or.inl ⟨by rfl, ?_⟩) (by assumption) ?_
  rotate_left
  · (intro w hSw; (try dsimp only at hSw); go_simp; first | done | with_reducible rfl)
  try simp only [Act.put, List.setIfInBounds_toArray, List.set_cons_zero, List.set_cons_succ]
  refine wpAnyH_take (i := 18) (oi := { dst := some 91, op := Op.binOp BinOp.neq 3 (Operand.tmp 88) (Operand.tmp 90) 3, type := 4, pos := "outright.go:132", after := #[{ on := 15, ground := Ground.data }, { on := 17, ground := Ground.data }, { on := 13, ground := Ground.guard }], guard := some (13, false) }) (v := ?_) rfl (by kernel_rfl) (by kernel_rfl) (by kernel_rfl) (fun _ _ _ h => h) (Or.inl ⟨by rfl, ?_⟩) (by assumption) ?_
  rotate_left
  · (intro w hSw; (try dsimp only at hSw); go_simp; first | done | with_reducible rfl)
  try simp only [Act.put, List.setIfInBounds_toArray, List.set_cons_zero, List.set_cons_succ]
  refine wpAnyH_take (i := 19) (oi := { dst := some 92, op := Op.pick (Operand.tmp 86) (Operand.const (Value.bool true)) (Operand.tmp 91), type := 4, pos := "outright.go:132", after := #[{ on := 13, ground := Ground.data }, { on := 18, ground := Ground.data }], guard := none }) (v := ?_) rfl (by kernel_rfl) (by kernel_rfl) (by kernel_rfl) (fun _ _ _ h => h) (Or.inl ⟨by rfl, ?_⟩) (by assumption) ?_
  rotate_left
  · (intro w hSw; (try dsimp only at hSw); go_simp; first | done | with_reducible rfl)
  try simp only [Act.put, List.setIfInBounds_toArray, List.set_cons_zero, List.set_cons_succ]
  refine wpAnyH_take (i := 20) (oi := { dst := some 93, op := Op.move (Operand.tmp 92), type := 4, pos := "outright.go:132", after := #[{ on := 19, ground := Ground.data }, { on := 13, ground := Ground.chain }], guard := none }) (v := ?_) rfl (by kernel_rfl) (by kernel_rfl) (by kernel_rfl) (fun _ _ _ h => h) (Or.inl ⟨by rfl, ?_⟩) (by assumption) ?_
  rotate_left
  · (intro w hSw; (try dsimp only at hSw); go_simp; first | done | with_reducible rfl)
  try simp only [Act.put, List.setIfInBounds_toArray, List.set_cons_zero, List.set_cons_succ]
  refine wpAnyH_take (i := 21) (oi := { dst := some 94, op := Op.load 23 (Operand.tmp 13), type := 23, pos := "outright.go:132", after := #[{ on := 20, ground := Ground.guard }], guard := some (20, false) }) (v := ?_) rfl (by kernel_rfl) (by kernel_rfl) (by kernel_rfl) (fun _ _ _ h => h) (Or.inl ⟨by rfl, ?_⟩) (by assumption) ?_
  rotate_left
  · (intro w hSw; (try dsimp only at hSw); go_simp; first | done | with_reducible rfl)
  try simp only [Act.put, List.setIfInBounds_toArray, List.set_cons_zero, List.set_cons_succ]
  refine wpAnyH_take (i := 23) (oi := { dst := some 96, op := Op.load 23 (Operand.tmp 14), type := 23, pos := "outright.go:132", after := #[{ on := 20, ground := Ground.guard }], guard := some (20, false) }) (v := ?_) rfl (by kernel_rfl) (by kernel_rfl) (by kernel_rfl) (fun _ _ _ h => h) (Or.inl ⟨by rfl, ?_⟩) (by assumption) ?_
  rotate_left
  · (intro w hSw; (try dsimp only at hSw); go_simp; first | done | with_reducible rfl)
  try simp only [Act.put, List.setIfInBounds_toArray, List.set_cons_zero, List.set_cons_succ]
  refine wpAnyH_ready (rs := [22]) (by kernel_rfl) (by simp) ?_
  refine AllReadyH.cons (o := { dst := some 95, op := Op.call { callee := Callee.value (Operand.func 23), args := #[Operand.tmp 94], argTypes := #[23] }, type := 3, pos := "outright.go:132", after := #[{ on := 21, ground := Ground.data }, { on := 20, ground := Ground.chain }, { on := 20, ground := Ground.guard }], guard := some (20, false) }) rfl (fun K hK => ?_) AllReadyH.nil
  go_simp
  refine (size_val _ _ _ n7 _ ⟨by omega, by omega⟩ ⟨by omega, by omega⟩ ⟨by omega, by omega⟩ N7.out).mono ?_
  rintro e u14 ⟨rfl, hb14⟩
  have hb14 : Below u13.heap.size u13 u14 := ⟨hb14.os, hb14.tape, hb14.output, hb14.size, hb14.block⟩
  have Ka := Lib.hid (Ka.out.keep hb14)
  have Kb := Lib.hid (Kb.out.keep hb14)
  have Kc := Lib.hid (Kc.out.keep hb14)
  have Kab := Lib.hid (Kab.out.keep hb14)
  have Kba := Lib.hid (Kba.out.keep hb14)
  have Kbc := Lib.hid (Kbc.out.keep hb14)
  have Kx := Lib.hid (Kx.out.keep hb14)
  have Ky := Lib.hid (Ky.out.keep hb14)
  have WW := Lib.hid (WW.out.trans (hb14.mono Z.out))
  have Z := Lib.hid (Nat.le_trans Z.out hb14.size)
  clear hb14
  go_wp2_with fail
  refine hK.out _ _ ?_ (fun hHeld22 => ?_)
  · exact ⟨Kx.out.c0, Kx.out.c1, Kx.out.c2, Ky.out.c0, Ky.out.c1, Ky.out.c2, Kab.out.c0, Kab.out.c1, Kab.out.c2, Kba.out.c0, Kba.out.c1, Kba.out.c2⟩
  clear hK K hHeld
  have hHeld := hHeld22
  clear hHeld22
  try simp only [Act.put, List.setIfInBounds_toArray, List.set_cons_zero, List.set_cons_succ]
  refine wpAnyH_ready (rs := [24]) (by kernel_rfl) (by simp) ?_
  refine AllReadyH.cons (o := { dst := some 97, op := Op.call { callee := Callee.value (Operand.func 23), args := #[Operand.tmp 96], argTypes := #[23] }, type := 3, pos := "outright.go:132", after := #[{ on := 23, ground := Ground.data }, { on := 22, ground := Ground.chain }, { on := 20, ground := Ground.guard }], guard := some (20, false) }) rfl (fun K hK => ?_) AllReadyH.nil
  go_simp
  refine (size_val _ _ _ n7 _ ⟨by omega, by omega⟩ ⟨by omega, by omega⟩ ⟨by omega, by omega⟩ N8.out).mono ?_
  rintro e u15 ⟨rfl, hb15⟩
  have hb15 : Below u14.heap.size u14 u15 := ⟨hb15.os, hb15.tape, hb15.output, hb15.size, hb15.block⟩
  have Ka := Lib.hid (Ka.out.keep hb15)
  have Kb := Lib.hid (Kb.out.keep hb15)
  have Kc := Lib.hid (Kc.out.keep hb15)
  have Kab := Lib.hid (Kab.out.keep hb15)
  have Kba := Lib.hid (Kba.out.keep hb15)
  have Kbc := Lib.hid (Kbc.out.keep hb15)
  have Kx := Lib.hid (Kx.out.keep hb15)
  have Ky := Lib.hid (Ky.out.keep hb15)
  have WW := Lib.hid (WW.out.trans (hb15.mono Z.out))
  have Z := Lib.hid (Nat.le_trans Z.out hb15.size)
  clear hb15
  go_wp2_with fail
  refine hK.out _ _ ?_ (fun hHeld24 => ?_)
  · exact ⟨Kx.out.c0, Kx.out.c1, Kx.out.c2, Ky.out.c0, Ky.out.c1, Ky.out.c2, Kab.out.c0, Kab.out.c1, Kab.out.c2, Kba.out.c0, Kba.out.c1, Kba.out.c2⟩
  clear hK K hHeld
  have hHeld := hHeld24
  clear hHeld24
  try simp only [Act.put, List.setIfInBounds_toArray, List.set_cons_zero, List.set_cons_succ]
  refine wpAnyH_take (i := 25) (oi := { dst := some 98, op := Op.binOp BinOp.neq 3 (Operand.tmp 95) (Operand.tmp 97) 3, type := 4, pos := "outright.go:132", after := #[{ on := 22, ground := Ground.data }, { on := 24, ground := Ground.data }, { on := 20, ground := Ground.guard }], guard := some (20, false) }) (v := ?_) rfl (by kernel_rfl) (by kernel_rfl) (by kernel_rfl) (fun _ _ _ h => h) (Or.inl ⟨by rfl, ?_⟩) (by assumption) ?_
  rotate_left
  · (intro w hSw; (try dsimp only at hSw); go_simp; first | done | with_reducible rfl)
  try simp only [Act.put, List.setIfInBounds_toArray, List.set_cons_zero, List.set_cons_succ]
  refine wpAnyH_take (i := 26) (oi := { dst := some 99, op := Op.pick (Operand.tmp 93) (Operand.const (Value.bool true)) (Operand.tmp 98), type := 4, pos := "outright.go:132", after := #[{ on := 20, ground := Ground.data }, { on := 25, ground := Ground.data }], guard := none }) (v := ?_) rfl (by kernel_rfl) (by kernel_rfl) (by kernel_rfl) (fun _ _ _ h => h) (Or.inl ⟨by rfl, ?_⟩) (by assumption) ?_
  rotate_left
  · (intro w hSw; (try dsimp only at hSw); go_simp; first | done | with_reducible rfl)
  try simp only [Act.put, List.setIfInBounds_toArray, List.set_cons_zero, List.set_cons_succ]
  refine wpAnyH_take (i := 27) (oi := { dst := some 100, op := Op.move (Operand.tmp 99), type := 4, pos := "outright.go:132", after := #[{ on := 26, ground := Ground.data }, { on := 24, ground := Ground.chain }], guard := none }) (v := ?_) rfl (by kernel_rfl) (by kernel_rfl) (by kernel_rfl) (fun _ _ _ h => h) (Or.inl ⟨by rfl, ?_⟩) (by assumption) ?_
  rotate_left
  · (intro w hSw; (try dsimp only at hSw); go_simp; first | done | with_reducible rfl)
  try simp only [Act.put, List.setIfInBounds_toArray, List.set_cons_zero, List.set_cons_succ]
  refine wpAnyH_take (i := 28) (oi := { dst := some 101, op := Op.fieldAddr 23 (Operand.tmp 7) 0, type := 0, pos := "outright.go:132", after := #[{ on := 27, ground := Ground.guard }], guard := some (27, false) }) (v := ?_) rfl (by kernel_rfl) (by kernel_rfl) (by kernel_rfl) (fun _ _ _ h => h) (Or.inl ⟨by rfl, ?_⟩) (by assumption) ?_
  rotate_left
  · (intro w hSw; (try dsimp only at hSw); go_simp; first | done | with_reducible rfl)
  try simp only [Act.put, List.setIfInBounds_toArray, List.set_cons_zero, List.set_cons_succ]
  refine wpAnyH_take (i := 29) (oi := { dst := some 102, op := Op.load 3 (Operand.tmp 101), type := 3, pos := "outright.go:132", after := #[{ on := 28, ground := Ground.data }, { on := 27, ground := Ground.guard }], guard := some (27, false) }) (v := ?_) rfl (by kernel_rfl) (by kernel_rfl) (by kernel_rfl) (fun _ _ _ h => h) (Or.inl ⟨by rfl, ?_⟩) (by assumption) ?_
  rotate_left
  · (intro w hSw; (try dsimp only at hSw); go_simp; first | done | with_reducible rfl)
  try simp only [Act.put, List.setIfInBounds_toArray, List.set_cons_zero, List.set_cons_succ]
  refine wpAnyH_take (i := 30) (oi := { dst := some 103, op := Op.fieldAddr 23 (Operand.tmp 9) 0, type := 0, pos := "outright.go:132", after := #[{ on := 27, ground := Ground.guard }], guard := some (27, false) }) (v := ?_) rfl (by kernel_rfl) (by kernel_rfl) (by kernel_rfl) (fun _ _ _ h => h) (Or.inl ⟨by rfl, ?_⟩) (by assumption) ?_
  rotate_left
  · (intro w hSw; (try dsimp only at hSw); go_simp; first | done | with_reducible rfl)
  try simp only [Act.put, List.setIfInBounds_toArray, List.set_cons_zero, List.set_cons_succ]
  refine wpAnyH_take (i := 31) (oi := { dst := some 104, op := Op.load 3 (Operand.tmp 103), type := 3, pos := "outright.go:132", after := #[{ on := 30, ground := Ground.data }, { on := 27, ground := Ground.guard }], guard := some (27, false) }) (v := ?_) rfl (by kernel_rfl) (by kernel_rfl) (by kernel_rfl) (fun _ _ _ h => h) (Or.inl ⟨by rfl, ?_⟩) (by assumption) ?_
  rotate_left
  · (intro w hSw; (try dsimp only at hSw); go_simp; first | done | with_reducible rfl)
  try simp only [Act.put, List.setIfInBounds_toArray, List.set_cons_zero, List.set_cons_succ]
  refine wpAnyH_take (i := 32) (oi := { dst := some 105, op := Op.binOp BinOp.neq 3 (Operand.tmp 102) (Operand.tmp 104) 3, type := 4, pos := "outright.go:132", after := #[{ on := 29, ground := Ground.data }, { on := 31, ground := Ground.data }, { on := 27, ground := Ground.guard }], guard := some (27, false) }) (v := ?_) rfl (by kernel_rfl) (by kernel_rfl) (by kernel_rfl) (fun _ _ _ h => h) (Or.inl ⟨by rfl, ?_⟩) (by assumption) ?_
  rotate_left
  · (intro w hSw; (try dsimp only at hSw); go_simp; first | done | with_reducible rfl)
  try simp only [Act.put, List.setIfInBounds_toArray, List.set_cons_zero, List.set_cons_succ]
  refine wpAnyH_take (i := 33) (oi := { dst := some 106, op := Op.pick (Operand.tmp 100) (Operand.const (Value.bool true)) (Operand.tmp 105), type := 4, pos := "outright.go:132", after := #[{ on := 27, ground := Ground.data }, { on := 32, ground := Ground.data }], guard := none }) (v := ?_) rfl (by kernel_rfl) (by kernel_rfl) (by kernel_rfl) (fun _ _ _ h => h) (Or.inl ⟨by rfl, ?_⟩) (by assumption) ?_
  rotate_left
  · (intro w hSw; (try dsimp only at hSw); go_simp; first | done | with_reducible rfl)
  try simp only [Act.put, List.setIfInBounds_toArray, List.set_cons_zero, List.set_cons_succ]
  refine wpAnyH_take (i := 34) (oi := { dst := some 107, op := Op.move (Operand.tmp 106), type := 4, pos := "outright.go:132", after := #[{ on := 33, ground := Ground.data }, { on := 27, ground := Ground.chain }], guard := none }) (v := ?_) rfl (by kernel_rfl) (by kernel_rfl) (by kernel_rfl) (fun _ _ _ h => h) (Or.inl ⟨by rfl, ?_⟩) (by assumption) ?_
  rotate_left
  · (intro w hSw; (try dsimp only at hSw); go_simp; first | done | with_reducible rfl)
  try simp only [Act.put, List.setIfInBounds_toArray, List.set_cons_zero, List.set_cons_succ]
  refine wpAnyH_take (i := 35) (oi := { dst := some 108, op := Op.fieldAddr 23 (Operand.tmp 7) 1, type := 0, pos := "outright.go:132", after := #[{ on := 34, ground := Ground.guard }], guard := some (34, false) }) (v := ?_) rfl (by kernel_rfl) (by kernel_rfl) (by kernel_rfl) (fun _ _ _ h => h) (Or.inl ⟨by rfl, ?_⟩) (by assumption) ?_
  rotate_left
  · (intro w hSw; (try dsimp only at hSw); go_simp; first | done | with_reducible rfl)
  try simp only [Act.put, List.setIfInBounds_toArray, List.set_cons_zero, List.set_cons_succ]
  refine wpAnyH_take (i := 36) (oi := { dst := some 109, op := Op.load 3 (Operand.tmp 108), type := 3, pos := "outright.go:132", after := #[{ on := 35, ground := Ground.data }, { on := 34, ground := Ground.guard }], guard := some (34, false) }) (v := ?_) rfl (by kernel_rfl) (by kernel_rfl) (by kernel_rfl) (fun _ _ _ h => h) (Or.inl ⟨by rfl, ?_⟩) (by assumption) ?_
  rotate_left
  · (intro w hSw; (try dsimp only at hSw); go_simp; first | done | with_reducible rfl)
  try simp only [Act.put, List.setIfInBounds_toArray, List.set_cons_zero, List.set_cons_succ]
  refine wpAnyH_take (i := 37) (oi := { dst := some 110, op := Op.fieldAddr 23 (Operand.tmp 9) 1, type := 0, pos := "outright.go:132", after := #[{ on := 34, ground := Ground.guard }], guard := some (34, false) }) (v := ?_) rfl (by kernel_rfl) (by kernel_rfl) (by kernel_rfl) (fun _ _ _ h => h) (Or.inl ⟨by rfl, ?_⟩) (by assumption) ?_
  rotate_left
  · (intro w hSw; (try dsimp only at hSw); go_simp; first | done | with_reducible rfl)
  try simp only [Act.put, List.setIfInBounds_toArray, List.set_cons_zero, List.set_cons_succ]
  refine wpAnyH_take (i := 38) (oi := { dst := some 111, op := Op.load 3 (Operand.tmp 110), type := 3, pos := "outright.go:132", after := #[{ on := 37, ground := Ground.data }, { on := 34, ground := Ground.guard }], guard := some (34, false) }) (v := ?_) rfl (by kernel_rfl) (by kernel_rfl) (by kernel_rfl) (fun _ _ _ h => h) (Or.inl ⟨by rfl, ?_⟩) (by assumption) ?_
  rotate_left
  · (intro w hSw; (try dsimp only at hSw); go_simp; first | done | with_reducible rfl)
  try simp only [Act.put, List.setIfInBounds_toArray, List.set_cons_zero, List.set_cons_succ]
  refine wpAnyH_take (i := 39) (oi := { dst := some 112, op := Op.binOp BinOp.neq 3 (Operand.tmp 109) (Operand.tmp 111) 3, type := 4, pos := "outright.go:132", after := #[{ on := 36, ground := Ground.data }, { on := 38, ground := Ground.data }, { on := 34, ground := Ground.guard }], guard := some (34, false) }) (v := ?_) rfl (by kernel_rfl) (by kernel_rfl) (by kernel_rfl) (fun _ _ _ h => h) (Or.inl ⟨by rfl, ?_⟩) (by assumption) ?_
  rotate_left
  · (intro w hSw; (try dsimp only at hSw); go_simp; first | done | with_reducible rfl)
  try simp only [Act.put, List.setIfInBounds_toArray, List.set_cons_zero, List.set_cons_succ]
  refine wpAnyH_take (i := 40) (oi := { dst := some 113, op := Op.pick (Operand.tmp 107) (Operand.const (Value.bool true)) (Operand.tmp 112), type := 4, pos := "outright.go:132", after := #[{ on := 34, ground := Ground.data }, { on := 39, ground := Ground.data }], guard := none }) (v := ?_) rfl (by kernel_rfl) (by kernel_rfl) (by kernel_rfl) (fun _ _ _ h => h) (Or.inl ⟨by rfl, ?_⟩) (by assumption) ?_
  rotate_left
  · (intro w hSw; (try dsimp only at hSw); go_simp; first | done | with_reducible rfl)
  try simp only [Act.put, List.setIfInBounds_toArray, List.set_cons_zero, List.set_cons_succ]
  refine wpAnyH_take (i := 41) (oi := { dst := some 114, op := Op.move (Operand.tmp 113), type := 4, pos := "outright.go:132", after := #[{ on := 40, ground := Ground.data }, { on := 34, ground := Ground.chain }], guard := none }) (v := ?_) rfl (by kernel_rfl) (by kernel_rfl) (by kernel_rfl) (fun _ _ _ h => h) (Or.inl ⟨by rfl, ?_⟩) (by assumption) ?_
  rotate_left
  · (intro w hSw; (try dsimp only at hSw); go_simp; first | done | with_reducible rfl)
  try simp only [Act.put, List.setIfInBounds_toArray, List.set_cons_zero, List.set_cons_succ]
  refine wpAnyH_take (i := 42) (oi := { dst := some 115, op := Op.load 23 (Operand.tmp 7), type := 23, pos := "outright.go:132", after := #[{ on := 41, ground := Ground.guard }], guard := some (41, false) }) (v := ?_) rfl (by kernel_rfl) (by kernel_rfl) (by kernel_rfl) (fun _ _ _ h => h) (Or.inl ⟨by rfl, ?_⟩) (by assumption) ?_
  rotate_left
  · (intro w hSw; (try dsimp only at hSw); go_simp; first | done | with_reducible rfl)
  try simp only [Act.put, List.setIfInBounds_toArray, List.set_cons_zero, List.set_cons_succ]
  refine wpAnyH_take (i := 44) (oi := { dst := some 117, op := Op.load 23 (Operand.tmp 9), type := 23, pos := "outright.go:132", after := #[{ on := 41, ground := Ground.guard }], guard := some (41, false) }) (v := ?_) rfl (by kernel_rfl) (by kernel_rfl) (by kernel_rfl) (fun _ _ _ h => h) (Or.inl ⟨by rfl, ?_⟩) (by assumption) ?_
  rotate_left
  · (intro w hSw; (try dsimp only at hSw); go_simp; first | done | with_reducible rfl)
  try simp only [Act.put, List.setIfInBounds_toArray, List.set_cons_zero, List.set_cons_succ]
  refine wpAnyH_ready (rs := [43]) (by kernel_rfl) (by simp) ?_
  refine AllReadyH.cons (o := { dst := some 116, op := Op.call { callee := Callee.value (Operand.func 23), args := #[Operand.tmp 115], argTypes := #[23] }, type := 3, pos := "outright.go:132", after := #[{ on := 42, ground := Ground.data }, { on := 41, ground := Ground.chain }, { on := 41, ground := Ground.guard }], guard := some (41, false) }) rfl (fun K hK => ?_) AllReadyH.nil
  go_simp
  refine (size_val _ _ _ n4 _ ⟨by omega, by omega⟩ ⟨by omega, by omega⟩ ⟨by omega, by omega⟩ N4.out).mono ?_
  rintro e u16 ⟨rfl, hb16⟩
  have hb16 : Below u15.heap.size u15 u16 := ⟨hb16.os, hb16.tape, hb16.output, hb16.size, hb16.block⟩
  have Ka := Lib.hid (Ka.out.keep hb16)
  have Kb := Lib.hid (Kb.out.keep hb16)
  have Kc := Lib.hid (Kc.out.keep hb16)
  have Kab := Lib.hid (Kab.out.keep hb16)
  have Kba := Lib.hid (Kba.out.keep hb16)
  have Kbc := Lib.hid (Kbc.out.keep hb16)
  have Kx := Lib.hid (Kx.out.keep hb16)
  have Ky := Lib.hid (Ky.out.keep hb16)
  have WW := Lib.hid (WW.out.trans (hb16.mono Z.out))
  have Z := Lib.hid (Nat.le_trans Z.out hb16.size)
  clear hb16
  go_wp2_with fail
  refine hK.out _ _ ?_ (fun hHeld43 => ?_)
  · exact ⟨Kx.out.c0, Kx.out.c1, Kx.out.c2, Ky.out.c0, Ky.out.c1, Ky.out.c2, Kab.out.c0, Kab.out.c1, Kab.out.c2, Kba.out.c0, Kba.out.c1, Kba.out.c2⟩
  clear hK K hHeld
  have hHeld := hHeld43
  clear hHeld43
  try simp only [Act.put, List.setIfInBounds_toArray, List.set_cons_zero, List.set_cons_succ]
  refine wpAnyH_ready (rs := [45]) (by kernel_rfl) (by simp) ?_
  refine AllReadyH.cons (o := { dst := some 118, op := Op.call { callee := Callee.value (Operand.func 23), args := #[Operand.tmp 117], argTypes := #[23] }, type := 3, pos := "outright.go:132", after := #[{ on := 44, ground := Ground.data }, { on := 43, ground := Ground.chain }, { on := 41, ground := Ground.guard }], guard := some (41, false) }) rfl (fun K hK => ?_) AllReadyH.nil
  go_simp
  refine (size_val _ _ _ n4 _ ⟨by omega, by omega⟩ ⟨by omega, by omega⟩ ⟨by omega, by omega⟩ N5.out).mono ?_
  rintro e u17 ⟨rfl, hb17⟩
  have hb17 : Below u16.heap.size u16 u17 := ⟨hb17.os, hb17.tape, hb17.output, hb17.size, hb17.block⟩
  have Ka := Lib.hid (Ka.out.keep hb17)
  have Kb := Lib.hid (Kb.out.keep hb17)
  have Kc := Lib.hid (Kc.out.keep hb17)
  have Kab := Lib.hid (Kab.out.keep hb17)
  have Kba := Lib.hid (Kba.out.keep hb17)
  have Kbc := Lib.hid (Kbc.out.keep hb17)
  have Kx := Lib.hid (Kx.out.keep hb17)
  have Ky := Lib.hid (Ky.out.keep hb17)
  have WW := Lib.hid (WW.out.trans (hb17.mono Z.out))
  have Z := Lib.hid (Nat.le_trans Z.out hb17.size)
  clear hb17
  go_wp2_with fail
  refine hK.out _ _ ?_ (fun hHeld45 => ?_)
  · exact ⟨Kx.out.c0, Kx.out.c1, Kx.out.c2, Ky.out.c0, Ky.out.c1, Ky.out.c2, Kab.out.c0, Kab.out.c1, Kab.out.c2, Kba.out.c0, Kba.out.c1, Kba.out.c2⟩
  clear hK K hHeld
  have hHeld := hHeld45
  clear hHeld45
  try simp only [Act.put, List.setIfInBounds_toArray, List.set_cons_zero, List.set_cons_succ]
  refine wpAnyH_take (i := 46) (oi := { dst := some 119, op := Op.binOp BinOp.neq 3 (Operand.tmp 116) (Operand.tmp 118) 3, type := 4, pos := "outright.go:132", after := #[{ on := 43, ground := Ground.data }, { on := 45, ground := Ground.data }, { on := 41, ground := Ground.guard }], guard := some (41, false) }) (v := ?_) rfl (by kernel_rfl) (by kernel_rfl) (by kernel_rfl) (fun _ _ _ h => h) (Or.inl ⟨by rfl, ?_⟩) (by assumption) ?_
  rotate_left
  · (intro w hSw; (try dsimp only at hSw); go_simp; first | done | with_reducible rfl)
  try simp only [Act.put, List.setIfInBounds_toArray, List.set_cons_zero, List.set_cons_succ]
  refine wpAnyH_take (i := 47) (oi := { dst := some 120, op := Op.pick (Operand.tmp 114) (Operand.const (Value.bool true)) (Operand.tmp 119), type := 4, pos := "outright.go:132", after := #[{ on := 41, ground := Ground.data }, { on := 46, ground := Ground.data }], guard := none }) (v := ?_) rfl (by kernel_rfl) (by kernel_rfl) (by kernel_rfl) (fun _ _ _ h => h) (Or.inl ⟨by rfl, ?_⟩) (by assumption) ?_
  rotate_left
  · (intro w hSw; (try dsimp only at hSw); go_simp; first | done | with_reducible rfl)
  try simp only [Act.put, List.setIfInBounds_toArray, List.set_cons_zero, List.set_cons_succ]
  refine wpAnyH_done (by kernel_rfl) ?_ _
  clear hHeld b4 b5 b7 b8
  have pa0 := Ka.out.c0
  have pa1 := Ka.out.c1
  have pa2 := Ka.out.c2
  have pb0 := Kb.out.c0
  have pb1 := Kb.out.c1
  have pb2 := Kb.out.c2
  go_wp2_with fail
  refine (Hull_ok _ _ _ _ _ _ _ hA hB).mono ?_
  rintro e u18 ⟨l9, h9, s9, m9, rfl, hb18⟩
  clear pa0 pa1 pa2 pb0 pb1 pb2
  have hb18 : Below u17.heap.size u17 u18 := ⟨hb18.os, hb18.tape, hb18.output, hb18.size, hb18.block⟩
  have Ka := Lib.hid (Ka.out.keep hb18)
  have Kb := Lib.hid (Kb.out.keep hb18)
  have Kc := Lib.hid (Kc.out.keep hb18)
  have Kab := Lib.hid (Kab.out.keep hb18)
  have Kba := Lib.hid (Kba.out.keep hb18)
  have Kbc := Lib.hid (Kbc.out.keep hb18)
  have Kx := Lib.hid (Kx.out.keep hb18)
  have Ky := Lib.hid (Ky.out.keep hb18)
  have WW := Lib.hid (WW.out.trans (hb18.mono Z.out))
  have Z := Lib.hid (Nat.le_trans Z.out hb18.size)
  clear hb18
  have k9 := Lib.hid m9.1
  have M9 := Lib.hid m9.2
  clear m9
  go_upto_region 13 with fail
  have hb19 := below_new u18 (.cells #[.int .i64 l9, .int .i64 h9, .int .i64 s9] 23)
  have Kh := Lib.hid (Blk3.new l9 h9 s9 23 u18)
  have Hh : Hid (u18.heap.size = u18.heap.size) := rfl
  have Ka := Lib.hid (Ka.out.keep hb19)
  have Kb := Lib.hid (Kb.out.keep hb19)
  have Kc := Lib.hid (Kc.out.keep hb19)
  have Kab := Lib.hid (Kab.out.keep hb19)
  have Kba := Lib.hid (Kba.out.keep hb19)
  have Kbc := Lib.hid (Kbc.out.keep hb19)
  have Kx := Lib.hid (Kx.out.keep hb19)
  have Ky := Lib.hid (Ky.out.keep hb19)
  have WW := Lib.hid (WW.out.trans (hb19.mono Z.out))
  have Z := Lib.hid (Nat.le_trans Z.out hb19.size)
  clear hb19 Hh
  generalize u18.alloc (.cells #[.int .i64 l9, .int .i64 h9, .int .i64 s9] 23) = u19 at *
  have pa0 := Ka.out.c0
  have pa1 := Ka.out.c1
  have pa2 := Ka.out.c2
  have ph0 := Kh.out.c0
  have ph1 := Kh.out.c1
  have ph2 := Kh.out.c2
  go_wp2_with fail
  refine (Within_ok _ _ _ _ _ _ _ hA k9).mono ?_
  rintro e u20 ⟨b1, hb1, rfl, hb20⟩
  clear pa0 pa1 pa2 ph0 ph1 ph2
  have hb20 : Below u19.heap.size u19 u20 := ⟨hb20.os, hb20.tape, hb20.output, hb20.size, hb20.block⟩
  have Ka := Lib.hid (Ka.out.keep hb20)
  have Kb := Lib.hid (Kb.out.keep hb20)
  have Kc := Lib.hid (Kc.out.keep hb20)
  have Kab := Lib.hid (Kab.out.keep hb20)
  have Kba := Lib.hid (Kba.out.keep hb20)
  have Kbc := Lib.hid (Kbc.out.keep hb20)
  have Kx := Lib.hid (Kx.out.keep hb20)
  have Ky := Lib.hid (Ky.out.keep hb20)
  have Kh := Lib.hid (Kh.out.keep hb20)
  have WW := Lib.hid (WW.out.trans (hb20.mono Z.out))
  have Z := Lib.hid (Nat.le_trans Z.out hb20.size)
  clear hb20
  obtain rfl : b1 = true := hb1.2 M9.out.1
  clear hb1
  have pb0 := Kb.out.c0
  have pb1 := Kb.out.c1
  have pb2 := Kb.out.c2
  have ph0 := Kh.out.c0
  have ph1 := Kh.out.c1
  have ph2 := Kh.out.c2
  go_wp2_with fail
  refine (Within_ok _ _ _ _ _ _ _ hB k9).mono ?_
  rintro e u21 ⟨b2, hb2, rfl, hb21⟩
  clear pb0 pb1 pb2 ph0 ph1 ph2
  have hb21 : Below u20.heap.size u20 u21 := ⟨hb21.os, hb21.tape, hb21.output, hb21.size, hb21.block⟩
  have Ka := Lib.hid (Ka.out.keep hb21)
  have Kb := Lib.hid (Kb.out.keep hb21)
  have Kc := Lib.hid (Kc.out.keep hb21)
  have Kab := Lib.hid (Kab.out.keep hb21)
  have Kba := Lib.hid (Kba.out.keep hb21)
  have Kbc := Lib.hid (Kbc.out.keep hb21)
  have Kx := Lib.hid (Kx.out.keep hb21)
  have Ky := Lib.hid (Ky.out.keep hb21)
  have Kh := Lib.hid (Kh.out.keep hb21)
  have WW := Lib.hid (WW.out.trans (hb21.mono Z.out))
  have Z := Lib.hid (Nat.le_trans Z.out hb21.size)
  clear hb21
  obtain rfl : b2 = true := hb2.2 M9.out.2.1
  clear hb2
  have pa0 := Ka.out.c0
  have pa1 := Ka.out.c1
  have pa2 := Ka.out.c2
  have pc0 := Kc.out.c0
  have pc1 := Kc.out.c1
  have pc2 := Kc.out.c2
  go_wp2_with fail
  refine (Within_ok _ _ _ _ _ _ _ hA hC).mono ?_
  rintro e u22 ⟨b3, hb3, rfl, hb22⟩
  clear pa0 pa1 pa2 pc0 pc1 pc2
  have hb22 : Below u21.heap.size u21 u22 := ⟨hb22.os, hb22.tape, hb22.output, hb22.size, hb22.block⟩
  have Ka := Lib.hid (Ka.out.keep hb22)
  have Kb := Lib.hid (Kb.out.keep hb22)
  have Kc := Lib.hid (Kc.out.keep hb22)
  have Kab := Lib.hid (Kab.out.keep hb22)
  have Kba := Lib.hid (Kba.out.keep hb22)
  have Kbc := Lib.hid (Kbc.out.keep hb22)
  have Kx := Lib.hid (Kx.out.keep hb22)
  have Ky := Lib.hid (Ky.out.keep hb22)
  have Kh := Lib.hid (Kh.out.keep hb22)
  have WW := Lib.hid (WW.out.trans (hb22.mono Z.out))
  have Z := Lib.hid (Nat.le_trans Z.out hb22.size)
  clear hb22
  have X3 := Lib.hid hb3
  clear hb3
  have pb0 := Kb.out.c0
  have pb1 := Kb.out.c1
  have pb2 := Kb.out.c2
  have pc0 := Kc.out.c0
  have pc1 := Kc.out.c1
  have pc2 := Kc.out.c2
  go_wp2_with fail
  refine (Within_ok _ _ _ _ _ _ _ hB hC).mono ?_
  rintro e u23 ⟨b4, hb4, rfl, hb23⟩
  clear pb0 pb1 pb2 pc0 pc1 pc2
  have hb23 : Below u22.heap.size u22 u23 := ⟨hb23.os, hb23.tape, hb23.output, hb23.size, hb23.block⟩
  have Ka := Lib.hid (Ka.out.keep hb23)
  have Kb := Lib.hid (Kb.out.keep hb23)
  have Kc := Lib.hid (Kc.out.keep hb23)
  have Kab := Lib.hid (Kab.out.keep hb23)
  have Kba := Lib.hid (Kba.out.keep hb23)
  have Kbc := Lib.hid (Kbc.out.keep hb23)
  have Kx := Lib.hid (Kx.out.keep hb23)
  have Ky := Lib.hid (Ky.out.keep hb23)
  have Kh := Lib.hid (Kh.out.keep hb23)
  have WW := Lib.hid (WW.out.trans (hb23.mono Z.out))
  have Z := Lib.hid (Nat.le_trans Z.out hb23.size)
  clear hb23
  have X4 := Lib.hid hb4
  clear hb4
  have ph0 := Kh.out.c0
  have ph1 := Kh.out.c1
  have ph2 := Kh.out.c2
  have pc0 := Kc.out.c0
  have pc1 := Kc.out.c1
  have pc2 := Kc.out.c2
  go_wp2_with fail
  refine (Within_ok _ _ _ _ _ _ _ k9 hC).mono ?_
  rintro e u24 ⟨b5, hb5, rfl, hb24⟩
  clear ph0 ph1 ph2 pc0 pc1 pc2
  have hb24 : Below u23.heap.size u23 u24 := ⟨hb24.os, hb24.tape, hb24.output, hb24.size, hb24.block⟩
  have Ka := Lib.hid (Ka.out.keep hb24)
  have Kb := Lib.hid (Kb.out.keep hb24)
  have Kc := Lib.hid (Kc.out.keep hb24)
  have Kab := Lib.hid (Kab.out.keep hb24)
  have Kba := Lib.hid (Kba.out.keep hb24)
  have Kbc := Lib.hid (Kbc.out.keep hb24)
  have Kx := Lib.hid (Kx.out.keep hb24)
  have Ky := Lib.hid (Ky.out.keep hb24)
  have Kh := Lib.hid (Kh.out.keep hb24)
  have WW := Lib.hid (WW.out.trans (hb24.mono Z.out))
  have Z := Lib.hid (Nat.le_trans Z.out hb24.size)
  clear hb24
  have X5 := Lib.hid hb5
  clear hb5
  cases b3
  · go_wp2_with fail
    refine (awake_any _).mono ?_
    rintro e u25 ⟨rfl, hb25⟩
    have hb25 : Below u24.heap.size u24 u25 := ⟨hb25.os, hb25.tape, hb25.output, hb25.size, hb25.block⟩
    have WW := Lib.hid (WW.out.trans (hb25.mono Z.out))
    clear hb25
    go_wp2
    go_ret
    exact ⟨rfl, WW.out⟩
  · cases b4
    · go_wp2_with fail
      refine (awake_any _).mono ?_
      rintro e u25 ⟨rfl, hb25⟩
      have hb25 : Below u24.heap.size u24 u25 := ⟨hb25.os, hb25.tape, hb25.output, hb25.size, hb25.block⟩
      have WW := Lib.hid (WW.out.trans (hb25.mono Z.out))
      clear hb25
      go_wp2
      go_ret
      exact ⟨rfl, WW.out⟩
    · obtain rfl : b5 = true := X5.out.2 (M9.out.2.2 _ _ _ hC.out (X3.out.1 rfl) (X4.out.1 rfl))
      go_wp2_with fail
      refine (awake_any _).mono ?_
      rintro e u25 ⟨rfl, hb25⟩
      have hb25 : Below u24.heap.size u24 u25 := ⟨hb25.os, hb25.tape, hb25.output, hb25.size, hb25.block⟩
      have WW := Lib.hid (WW.out.trans (hb25.mono Z.out))
      clear hb25
      go_wp2
      go_ret
      exact ⟨rfl, WW.out⟩

theorem spanAlgebra_walk (l1 h1 s1 l2 h2 s2 l3 h3 s3 : Int) (w : World) (hl1 : I64 l1) (hh1 : I64 h1) (hs1 : I64 s1) (hl2 : I64 l2) (hh2 : I64 h2) (hs2 : I64 s2) (hl3 : I64 l3) (hh3 : I64 h3) (hs3 : I64 s3) :
    Calls Try.prog 9 #[.agg #[.int .i64 l1, .int .i64 h1, .int .i64 s1], .agg #[.int .i64 l2, .int .i64 h2, .int .i64 s2], .agg #[.int .i64 l3, .int .i64 h3, .int .i64 s3]] w fun e w' => e = .returned (.bool true) ∧ Below w.heap.size w w' := by
  by_cases hA : chk l1 h1 s1 = 0
  · by_cases hB : chk l2 h2 s2 = 0
    · by_cases hC : chk l3 h3 s3 = 0
      · exact algAll l1 h1 s1 l2 h2 s2 l3 h3 s3 w hl1 hh1 hs1 hl2 hh2 hs2 hl3 hh3 hs3 hA hB hC
      · exact algBadC l1 h1 s1 l2 h2 s2 l3 h3 s3 w hl1 hh1 hs1 hl2 hh2 hs2 hl3 hh3 hs3 hA hB hC
    · exact algBadB l1 h1 s1 l2 h2 s2 l3 h3 s3 w hl1 hh1 hs1 hl2 hh2 hs2 hl3 hh3 hs3 hA hB
  · exact algBadA l1 h1 s1 l2 h2 s2 l3 h3 s3 w hl1 hh1 hs1 hl2 hh2 hs2 hl3 hh3 hs3 hA
end Go.Proofs.Ytkkinnjjanbmjaa
