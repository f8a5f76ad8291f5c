/-
  The errors of the reference's Intersect, Subtract, Hull and Within.
-/
import Derived.Test.YtdifilndpilboaaPairE
import Derived.WalkKit
import Derived.WalkSpells
import Derived.WalkLawsBesides
import Derived.BigQuiet
import Derived.Deep.QuietTactic
import Derived.Deep.RegionHeld3
import Derived.Deep.DrawnRows
import Derived.Lib.Hide
namespace Go.Proofs.Ytdifilndpilboaa
open Go.RowKit

set_option maxHeartbeats 800000 in
theorem refIntersect_bad1 (l1 h1 s1 l2 h2 s2 : Int) (w : World) (hl : I64 l1) (hh : I64 h1) (hs : I64 s1) (hk : ¬ chk l1 h1 s1 = 0) :
    Calls Try.prog 41 #[.agg #[.int .i64 l1, .int .i64 h1, .int .i64 s1], .agg #[.int .i64 l2, .int .i64 h2, .int .i64 s2]] w fun e w' => e = .returned (.tuple #[.agg #[.int .i64 0, .int .i64 0, .int .i64 0], .int .i64 (chk l1 h1 s1)]) ∧ Below w.heap.size w w' := by
  have hn : (chk l1 h1 s1 != 0) = true := by simp [hk]
  clear hk
  go_enter Try.func41, Try.ntmps41
  go_wp2_with fail
  refine (refCheck_any _ _ _ _ hl hh hs).mono ?_
  rintro e w1 ⟨rfl, hb1⟩
  obtain ⟨W1, z1, ⟨x0, x1, x2⟩, ⟨y0, y1, y2⟩, ⟨r0, r1, r2⟩, f0, f1, f2⟩ := res33 hb1
  clear hb1 x0 x1 x2 y0 y1 y2
  go_wp2
  refine bodyPost_ret (v := .tuple #[.agg #[.int .i64 0, .int .i64 0, .int .i64 0], .int .i64 (chk l1 h1 s1)]) (by simp [results, Try.results41, go_sem, *]) rfl ⟨rfl, ?_⟩
  repeat (first | exact W1.out | refine Below.setCell ?_ (by simp; try omega) _)

set_option maxHeartbeats 800000 in
theorem refIntersect_bad2 (l1 h1 s1 l2 h2 s2 : Int) (w : World) (hA : Hid (chk l1 h1 s1 = 0)) (hl : I64 l2) (hh : I64 h2) (hs : I64 s2) (hk : ¬ chk l2 h2 s2 = 0) :
    Calls Try.prog 41 #[.agg #[.int .i64 l1, .int .i64 h1, .int .i64 s1], .agg #[.int .i64 l2, .int .i64 h2, .int .i64 s2]] w fun e w' => e = .returned (.tuple #[.agg #[.int .i64 0, .int .i64 0, .int .i64 0], .int .i64 (chk l2 h2 s2)]) ∧ Below w.heap.size w w' := by
  have hn : (chk l2 h2 s2 != 0) = true := by simp [hk]
  clear hk
  go_enter Try.func41, Try.ntmps41
  go_wp2_with fail
  refine (refCheck_ok _ _ _ _ hA).mono ?_
  rintro e w1 ⟨rfl, hb1⟩
  obtain ⟨W1, z1, ⟨x0, x1, x2⟩, ⟨y0, y1, y2⟩, ⟨r0, r1, r2⟩, f0, f1, f2⟩ := res33 hb1
  clear hb1 x0 x1 x2
  go_wp2_with fail
  refine (refCheck_any _ _ _ _ hl hh hs).mono ?_
  rintro e w2 ⟨rfl, hb2⟩
  have W2 := hidTrans W1 hb2 (by omega)
  obtain ⟨⟨q0, q1, q2⟩, p0, p1, p2⟩ := keepF hb2 z1 ⟨r0, r1, r2⟩ ⟨f0, f1, f2⟩
  have z2 := Nat.lt_of_lt_of_le z1 hb2.size
  clear hb2 y0 y1 y2 r0 r1 r2 f0 f1 f2
  go_wp2
  refine bodyPost_ret (v := .tuple #[.agg #[.int .i64 0, .int .i64 0, .int .i64 0], .int .i64 (chk l2 h2 s2)]) (by simp [results, Try.results41, go_sem, *]) rfl ⟨rfl, ?_⟩
  repeat (first | exact W2.out | refine Below.setCell ?_ (by simp; try omega) _)

set_option maxHeartbeats 800000 in
theorem refHull_bad1 (l1 h1 s1 l2 h2 s2 : Int) (w : World) (hl : I64 l1) (hh : I64 h1) (hs : I64 s1) (hk : ¬ chk l1 h1 s1 = 0) :
    Calls Try.prog 45 #[.agg #[.int .i64 l1, .int .i64 h1, .int .i64 s1], .agg #[.int .i64 l2, .int .i64 h2, .int .i64 s2]] w fun e w' => e = .returned (.tuple #[.agg #[.int .i64 0, .int .i64 0, .int .i64 0], .int .i64 (chk l1 h1 s1)]) ∧ Below w.heap.size w w' := by
  have hn : (chk l1 h1 s1 != 0) = true := by simp [hk]
  clear hk
  go_enter Try.func45, Try.ntmps45
  go_wp2_with fail
  refine (refCheck_any _ _ _ _ hl hh hs).mono ?_
  rintro e w1 ⟨rfl, hb1⟩
  obtain ⟨W1, z1, ⟨x0, x1, x2⟩, ⟨y0, y1, y2⟩, ⟨r0, r1, r2⟩, f0, f1, f2⟩ := res33 hb1
  clear hb1 x0 x1 x2 y0 y1 y2
  go_wp2
  refine bodyPost_ret (v := .tuple #[.agg #[.int .i64 0, .int .i64 0, .int .i64 0], .int .i64 (chk l1 h1 s1)]) (by simp [results, Try.results45, go_sem, *]) rfl ⟨rfl, ?_⟩
  repeat (first | exact W1.out | refine Below.setCell ?_ (by simp; try omega) _)

set_option maxHeartbeats 800000 in
theorem refHull_bad2 (l1 h1 s1 l2 h2 s2 : Int) (w : World) (hA : Hid (chk l1 h1 s1 = 0)) (hl : I64 l2) (hh : I64 h2) (hs : I64 s2) (hk : ¬ chk l2 h2 s2 = 0) :
    Calls Try.prog 45 #[.agg #[.int .i64 l1, .int .i64 h1, .int .i64 s1], .agg #[.int .i64 l2, .int .i64 h2, .int .i64 s2]] w fun e w' => e = .returned (.tuple #[.agg #[.int .i64 0, .int .i64 0, .int .i64 0], .int .i64 (chk l2 h2 s2)]) ∧ Below w.heap.size w w' := by
  have hn : (chk l2 h2 s2 != 0) = true := by simp [hk]
  clear hk
  go_enter Try.func45, Try.ntmps45
  go_wp2_with fail
  refine (refCheck_ok _ _ _ _ hA).mono ?_
  rintro e w1 ⟨rfl, hb1⟩
  obtain ⟨W1, z1, ⟨x0, x1, x2⟩, ⟨y0, y1, y2⟩, ⟨r0, r1, r2⟩, f0, f1, f2⟩ := res33 hb1
  clear hb1 x0 x1 x2
  go_wp2_with fail
  refine (refCheck_any _ _ _ _ hl hh hs).mono ?_
  rintro e w2 ⟨rfl, hb2⟩
  have W2 := hidTrans W1 hb2 (by omega)
  obtain ⟨⟨q0, q1, q2⟩, p0, p1, p2⟩ := keepF hb2 z1 ⟨r0, r1, r2⟩ ⟨f0, f1, f2⟩
  have z2 := Nat.lt_of_lt_of_le z1 hb2.size
  clear hb2 y0 y1 y2 r0 r1 r2 f0 f1 f2
  go_wp2
  refine bodyPost_ret (v := .tuple #[.agg #[.int .i64 0, .int .i64 0, .int .i64 0], .int .i64 (chk l2 h2 s2)]) (by simp [results, Try.results45, go_sem, *]) rfl ⟨rfl, ?_⟩
  repeat (first | exact W2.out | refine Below.setCell ?_ (by simp; try omega) _)
theorem refIntersect_bad (l1 h1 s1 l2 h2 s2 : Int) (w : World) (hl : I64 l1) (hh : I64 h1) (hs : I64 s1) (hl2 : I64 l2) (hh2 : I64 h2) (hs2 : I64 s2) (hk : ¬ chk2 l1 h1 s1 l2 h2 s2 = 0) :
    Calls Try.prog 41 #[.agg #[.int .i64 l1, .int .i64 h1, .int .i64 s1], .agg #[.int .i64 l2, .int .i64 h2, .int .i64 s2]] w fun e w' => e = .returned (.tuple #[.agg #[.int .i64 0, .int .i64 0, .int .i64 0], .int .i64 (chk2 l1 h1 s1 l2 h2 s2)]) ∧ Below w.heap.size w w' := by
  unfold chk2 at hk ⊢
  by_cases h : chk l1 h1 s1 = 0
  · rw [if_pos h] at hk ⊢; exact refIntersect_bad2 _ _ _ _ _ _ w h hl2 hh2 hs2 hk
  · rw [if_neg h] at hk ⊢; exact refIntersect_bad1 _ _ _ _ _ _ w hl hh hs hk

theorem refHull_bad (l1 h1 s1 l2 h2 s2 : Int) (w : World) (hl : I64 l1) (hh : I64 h1) (hs : I64 s1) (hl2 : I64 l2) (hh2 : I64 h2) (hs2 : I64 s2) (hk : ¬ chk2 l1 h1 s1 l2 h2 s2 = 0) :
    Calls Try.prog 45 #[.agg #[.int .i64 l1, .int .i64 h1, .int .i64 s1], .agg #[.int .i64 l2, .int .i64 h2, .int .i64 s2]] w fun e w' => e = .returned (.tuple #[.agg #[.int .i64 0, .int .i64 0, .int .i64 0], .int .i64 (chk2 l1 h1 s1 l2 h2 s2)]) ∧ Below w.heap.size w w' := by
  unfold chk2 at hk ⊢
  by_cases h : chk l1 h1 s1 = 0
  · rw [if_pos h] at hk ⊢; exact refHull_bad2 _ _ _ _ _ _ w h hl2 hh2 hs2 hk
  · rw [if_neg h] at hk ⊢; exact refHull_bad1 _ _ _ _ _ _ w hl hh hs hk

set_option maxHeartbeats 800000 in
theorem refWithin_bad (l1 h1 s1 l2 h2 s2 : Int) (w : World) (hl : I64 l1) (hh : I64 h1) (hs : I64 s1) (hl2 : I64 l2) (hh2 : I64 h2) (hs2 : I64 s2) (hk : ¬ chk2 l1 h1 s1 l2 h2 s2 = 0) :
    Calls Try.prog 47 #[.agg #[.int .i64 l1, .int .i64 h1, .int .i64 s1], .agg #[.int .i64 l2, .int .i64 h2, .int .i64 s2]] w fun e w' => e = .returned (.tuple #[.bool false, .int .i64 (chk2 l1 h1 s1 l2 h2 s2)]) ∧ Below w.heap.size w w' := by
  have HK := Lib.hid hk
  have hn : (chk2 l1 h1 s1 l2 h2 s2 != 0) = true := by simp [hk]
  clear hk
  go_enter Try.func47, Try.ntmps47
  go_wp2_with fail

  refine (refIntersect_bad _ _ _ _ _ _ _ hl hh hs hl2 hh2 hs2 HK.out).mono ?_
  rintro e w1 ⟨rfl, hb1⟩
  obtain ⟨W1, z1, _⟩ := pair6 hb1
  clear hb1
  go_wp2_with fail
  refine bodyPost_ret (v := .tuple #[.bool false, .int .i64 (chk2 l1 h1 s1 l2 h2 s2)]) (by simp [results, Try.results47, go_sem, *]) rfl ⟨rfl, ?_⟩
  exact W1.out.alloc (by omega) _

set_option maxHeartbeats 800000 in
theorem refSubtract_bad (l1 h1 s1 l2 h2 s2 : Int) (w : World) (hl : I64 l1) (hh : I64 h1) (hs : I64 s1) (hl2 : I64 l2) (hh2 : I64 h2) (hs2 : I64 s2) (hk : ¬ chk2 l1 h1 s1 l2 h2 s2 = 0) :
    Calls Try.prog 43 #[.agg #[.int .i64 l1, .int .i64 h1, .int .i64 s1], .agg #[.int .i64 l2, .int .i64 h2, .int .i64 s2]] w fun e w' => e = .returned (.tuple #[.slice none 0 0, .int .i64 (chk2 l1 h1 s1 l2 h2 s2)]) ∧ Below w.heap.size w w' := by
  have HK := Lib.hid hk
  have hn : (chk2 l1 h1 s1 l2 h2 s2 != 0) = true := by simp [hk]
  clear hk
  go_enter Try.func43, Try.ntmps43
  go_wp2_with fail

  refine (refIntersect_bad _ _ _ _ _ _ _ hl hh hs hl2 hh2 hs2 HK.out).mono ?_
  rintro e w1 ⟨rfl, hb1⟩
  obtain ⟨W1, z1, _⟩ := pair6 hb1
  clear hb1
  go_wp2_with fail
  refine bodyPost_ret (v := .tuple #[.slice none 0 0, .int .i64 (chk2 l1 h1 s1 l2 h2 s2)]) (by simp [results, Try.results43, go_sem, *]) rfl ⟨rfl, ?_⟩
  exact W1.out.alloc (by omega) _
end Go.Proofs.Ytdifilndpilboaa
