/-
  The reference's Intersect where one of two right ranges is empty.
-/
import Derived.Test.YtdifilndpilboaaRefN
import Derived.WalkKit
import Derived.WalkSpells
import Derived.WalkLawsBesides
import Derived.BigQuiet
import Derived.Deep.QuietTactic
import Derived.Deep.RegionHeld3
import Derived.Deep.DrawnRows
import Derived.Lib.Hide
namespace Go.Proofs.Ytdifilndpilboaa
open Go.RowKit

set_option maxHeartbeats 800000 in
theorem refIntersect_none1 (l2 h2 s2 : Int) (w : World) (hB : Hid (chk l2 h2 s2 = 0)) :
    Calls Try.prog 41 #[.agg #[.int .i64 1, .int .i64 0, .int .i64 1], .agg #[.int .i64 l2, .int .i64 h2, .int .i64 s2]] w fun e w' => e = .returned (.tuple #[.agg #[.int .i64 1, .int .i64 0, .int .i64 1], .int .i64 0]) ∧ Below w.heap.size w w' := by
  have hA : Hid (chk 1 0 1 = 0) := Lib.hid (by decide)
  have e0 : reqB 1 0 1 1 0 1 = true := by decide
  go_enter Try.func41, Try.ntmps41
  go_wp2_with fail
  refine (refCheck_ok _ _ _ _ hA).mono ?_
  rintro e w1 ⟨rfl, hb1⟩
  obtain ⟨W1, z1, ⟨x0, x1, x2⟩, ⟨y0, y1, y2⟩, ⟨r0, r1, r2⟩, f0, f1, f2⟩ := res33 hb1
  clear hb1
  go_wp2_with fail
  refine (refCheck_ok _ _ _ _ hB).mono ?_
  rintro e w2 ⟨rfl, hb2⟩
  have W2 := hidTrans W1 hb2 (by omega)
  obtain ⟨⟨q0, q1, q2⟩, p0, p1, p2⟩ := keepF hb2 z1 ⟨r0, r1, r2⟩ ⟨f0, f1, f2⟩
  obtain ⟨_, u0, u1, u2⟩ := keep3 (B := w.heap.size) hb2 (by omega) x0 x1 x2
  obtain ⟨_, v0, v1, v2⟩ := keep3 (B := w.heap.size + 1) hb2 (by omega) y0 y1 y2
  have z2 := Nat.lt_of_lt_of_le z1 hb2.size
  clear hb2 y0 y1 y2 r0 r1 r2 f0 f1 f2 x0 x1 x2 W1 z1
  go_wp2_with fail
  refine (refIsEmpty_any _ _ _ _).mono ?_
  rintro e w3 ⟨rfl, hb3⟩
  have W3 := hidTrans W2 hb3 (by omega)
  obtain ⟨⟨r0, r1, r2⟩, f0, f1, f2⟩ := keepF hb3 z2 ⟨q0, q1, q2⟩ ⟨p0, p1, p2⟩
  obtain ⟨_, y0, y1, y2⟩ := keep3 (B := w.heap.size + 1) hb3 (by omega) v0 v1 v2
  have z3 := Nat.lt_of_lt_of_le z2 hb3.size
  clear hb3 q0 q1 q2 p0 p1 p2 u0 u1 u2 v0 v1 v2 W2 z2
  go_wp2_with fail
  refine (refEmpty_any _).mono ?_
  rintro e w' ⟨rfl, rfl⟩
  go_wp2_with fail
  refine bodyPost_ret (v := .tuple #[.agg #[.int .i64 1, .int .i64 0, .int .i64 1], .int .i64 0]) (by simp [results, Try.results41, go_sem, *]) rfl ⟨rfl, ?_⟩
  repeat (first | exact W3.out | refine Below.alloc ?_ (by simp [World.setCell]; omega) _ | refine Below.setCell ?_ (by simp; try omega) _)

set_option maxHeartbeats 800000 in
theorem refIntersect_none2 (l1 h1 s1 : Int) (w : World) (hA : Hid (chk l1 h1 s1 = 0)) (hle : l1 ≤ h1) :
    Calls Try.prog 41 #[.agg #[.int .i64 l1, .int .i64 h1, .int .i64 s1], .agg #[.int .i64 1, .int .i64 0, .int .i64 1]] w fun e w' => e = .returned (.tuple #[.agg #[.int .i64 1, .int .i64 0, .int .i64 1], .int .i64 0]) ∧ Below w.heap.size w w' := by
  have hB : Hid (chk 1 0 1 = 0) := Lib.hid (by decide)
  have e1 : reqB l1 h1 s1 1 0 1 = false := by unfold reqB; simp; omega
  have e0 : reqB 1 0 1 1 0 1 = true := by decide
  clear hle
  go_enter Try.func41, Try.ntmps41
  go_wp2_with fail
  refine (refCheck_ok _ _ _ _ hA).mono ?_
  rintro e w1 ⟨rfl, hb1⟩
  obtain ⟨W1, z1, ⟨x0, x1, x2⟩, ⟨y0, y1, y2⟩, ⟨r0, r1, r2⟩, f0, f1, f2⟩ := res33 hb1
  clear hb1
  go_wp2_with fail
  refine (refCheck_ok _ _ _ _ hB).mono ?_
  rintro e w2 ⟨rfl, hb2⟩
  have W2 := hidTrans W1 hb2 (by omega)
  obtain ⟨⟨q0, q1, q2⟩, p0, p1, p2⟩ := keepF hb2 z1 ⟨r0, r1, r2⟩ ⟨f0, f1, f2⟩
  obtain ⟨_, u0, u1, u2⟩ := keep3 (B := w.heap.size) hb2 (by omega) x0 x1 x2
  obtain ⟨_, v0, v1, v2⟩ := keep3 (B := w.heap.size + 1) hb2 (by omega) y0 y1 y2
  have z2 := Nat.lt_of_lt_of_le z1 hb2.size
  clear hb2 y0 y1 y2 r0 r1 r2 f0 f1 f2 x0 x1 x2 W1 z1
  go_wp2_with fail
  refine (refIsEmpty_any _ _ _ _).mono ?_
  rintro e w3 ⟨rfl, hb3⟩
  have W3 := hidTrans W2 hb3 (by omega)
  obtain ⟨⟨r0, r1, r2⟩, f0, f1, f2⟩ := keepF hb3 z2 ⟨q0, q1, q2⟩ ⟨p0, p1, p2⟩
  obtain ⟨_, y0, y1, y2⟩ := keep3 (B := w.heap.size + 1) hb3 (by omega) v0 v1 v2
  have z3 := Nat.lt_of_lt_of_le z2 hb3.size
  clear hb3 q0 q1 q2 p0 p1 p2 u0 u1 u2 v0 v1 v2 W2 z2
  go_wp2_with fail
  refine (refIsEmpty_any _ _ _ _).mono ?_
  rintro e w4 ⟨rfl, hb4⟩
  have W4 := hidTrans W3 hb4 (by omega)
  obtain ⟨⟨q0, q1, q2⟩, p0, p1, p2⟩ := keepF hb4 z3 ⟨r0, r1, r2⟩ ⟨f0, f1, f2⟩
  have z4 := Nat.lt_of_lt_of_le z3 hb4.size
  clear hb4 y0 y1 y2 r0 r1 r2 f0 f1 f2 W3 z3
  go_wp2_with fail
  refine (refEmpty_any _).mono ?_
  rintro e w' ⟨rfl, rfl⟩
  go_wp2_with fail
  refine bodyPost_ret (v := .tuple #[.agg #[.int .i64 1, .int .i64 0, .int .i64 1], .int .i64 0]) (by simp [results, Try.results41, go_sem, *]) rfl ⟨rfl, ?_⟩
  repeat (first | exact W4.out | refine Below.alloc ?_ (by simp [World.setCell]; omega) _ | refine Below.setCell ?_ (by simp; try omega) _)
end Go.Proofs.Ytdifilndpilboaa
