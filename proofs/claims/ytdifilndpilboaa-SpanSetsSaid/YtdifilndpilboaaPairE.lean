/-
  The errors of Intersect, Subtract, Hull and Within, of the program and of the reference: the first range that is not right names it.
-/
import Derived.Test.YtdifilndpilboaaPairM
import Derived.Test.YtdifilndpilboaaAlgI
import Derived.WalkKit
import Derived.WalkSpells
import Derived.WalkLawsBesides
import Derived.BigQuiet
import Derived.Deep.QuietTactic
import Derived.Deep.RegionHeld3
import Derived.Deep.DrawnRows
import Derived.Lib.Hide
namespace Go.Proofs.Ytdifilndpilboaa
open Go.RowKit

set_option maxHeartbeats 800000 in
theorem checkBoth_bad1 (l1 h1 s1 l2 h2 s2 : Int) (w : World) (hl : I64 l1) (hh : I64 h1) (hs : I64 s1) (hk : ¬ chk l1 h1 s1 = 0) :
    Calls Try.prog 117 #[.agg #[.int .i64 l1, .int .i64 h1, .int .i64 s1], .agg #[.int .i64 l2, .int .i64 h2, .int .i64 s2]] w fun e w' => e = .returned (.int .i64 (chk l1 h1 s1)) ∧ Below w.heap.size w w' := by
  have hn : (chk l1 h1 s1 != 0) = true := by simp [hk]
  clear hk
  go_enter Try.func117, Try.ntmps117
  go_wp2_with fail
  refine (check_any _ _ _ _ hl.1 hh.2 hl.2 hh.1 hs.1 hs.2).mono ?_
  rintro e w1 ⟨rfl, hb1⟩
  obtain ⟨W1, z1, ⟨x0, x1, x2⟩, ⟨y0, y1, y2⟩⟩ := pair6 hb1
  clear hb1 x0 x1 x2
  go_wp2
  go_ret
  exact ⟨rfl, W1.out⟩

set_option maxHeartbeats 800000 in
theorem checkBoth_bad2 (l1 h1 s1 l2 h2 s2 : Int) (w : World) (hA : Hid (chk l1 h1 s1 = 0)) (hl : I64 l2) (hh : I64 h2) (hs : I64 s2) :
    Calls Try.prog 117 #[.agg #[.int .i64 l1, .int .i64 h1, .int .i64 s1], .agg #[.int .i64 l2, .int .i64 h2, .int .i64 s2]] w fun e w' => e = .returned (.int .i64 (chk l2 h2 s2)) ∧ Below w.heap.size w w' := by
  have bA := chk_bounds hA.out
  go_enter Try.func117, Try.ntmps117
  go_wp2_with fail
  refine (check_ok _ _ _ _ ⟨by omega, by omega⟩ ⟨by omega, by omega⟩ ⟨by omega, by omega⟩ hA).mono ?_
  rintro e w1 ⟨rfl, hb1⟩
  obtain ⟨W1, z1, ⟨x0, x1, x2⟩, ⟨y0, y1, y2⟩⟩ := pair6 hb1
  clear hb1 x0 x1 x2
  go_wp2_with fail
  refine (check_any _ _ _ _ hl.1 hh.2 hl.2 hh.1 hs.1 hs.2).mono ?_
  rintro e w2 ⟨rfl, hb2⟩
  have W2 := hidTrans W1 hb2 (by omega)
  clear hb2
  go_wp2
  go_ret
  exact ⟨rfl, W2.out⟩

/-- the error of the first of two ranges that has one -/
def chk2 (l1 h1 s1 l2 h2 s2 : Int) : Int := if chk l1 h1 s1 = 0 then chk l2 h2 s2 else chk l1 h1 s1

theorem checkBoth_any (l1 h1 s1 l2 h2 s2 : Int) (w : World) (hl : I64 l1) (hh : I64 h1) (hs : I64 s1) (hl2 : I64 l2) (hh2 : I64 h2) (hs2 : I64 s2) :
    Calls Try.prog 117 #[.agg #[.int .i64 l1, .int .i64 h1, .int .i64 s1], .agg #[.int .i64 l2, .int .i64 h2, .int .i64 s2]] w fun e w' => e = .returned (.int .i64 (chk2 l1 h1 s1 l2 h2 s2)) ∧ Below w.heap.size w w' := by
  unfold chk2
  by_cases hk : chk l1 h1 s1 = 0
  · rw [if_pos hk]; exact checkBoth_bad2 _ _ _ _ _ _ w hk hl2 hh2 hs2
  · rw [if_neg hk]; exact checkBoth_bad1 _ _ _ _ _ _ w hl hh hs hk

set_option maxHeartbeats 800000 in
theorem Intersect_bad (l1 h1 s1 l2 h2 s2 : Int) (w : World) (hl : I64 l1) (hh : I64 h1) (hs : I64 s1) (hl2 : I64 l2) (hh2 : I64 h2) (hs2 : I64 s2) (hk : ¬ chk2 l1 h1 s1 l2 h2 s2 = 0) :
    Calls Try.prog 40 #[.agg #[.int .i64 l1, .int .i64 h1, .int .i64 s1], .agg #[.int .i64 l2, .int .i64 h2, .int .i64 s2]] w fun e w' => e = .returned (.tuple #[.agg #[.int .i64 0, .int .i64 0, .int .i64 0], .int .i64 (chk2 l1 h1 s1 l2 h2 s2)]) ∧ Below w.heap.size w w' := by
  have hn : (chk2 l1 h1 s1 l2 h2 s2 != 0) = true := by simp [hk]
  clear hk
  go_enter Try.func40, Try.ntmps40
  go_wp2_with fail
  refine (checkBoth_any _ _ _ _ _ _ _ hl hh hs hl2 hh2 hs2).mono ?_
  rintro e w1 ⟨rfl, hb1⟩
  obtain ⟨W1, z1, ⟨x0, x1, x2⟩, ⟨y0, y1, y2⟩, ⟨r0, r1, r2⟩, f0, f1, f2⟩ := res33 hb1
  clear hb1 x0 x1 x2 y0 y1 y2
  go_wp2
  refine bodyPost_ret (v := .tuple #[.agg #[.int .i64 0, .int .i64 0, .int .i64 0], .int .i64 (chk2 l1 h1 s1 l2 h2 s2)]) (by simp [results, Try.results40, go_sem, *]) rfl ⟨rfl, ?_⟩
  repeat (first | exact W1.out | refine Below.setCell ?_ (by simp; try omega) _)

set_option maxHeartbeats 800000 in
theorem Hull_bad (l1 h1 s1 l2 h2 s2 : Int) (w : World) (hl : I64 l1) (hh : I64 h1) (hs : I64 s1) (hl2 : I64 l2) (hh2 : I64 h2) (hs2 : I64 s2) (hk : ¬ chk2 l1 h1 s1 l2 h2 s2 = 0) :
    Calls Try.prog 44 #[.agg #[.int .i64 l1, .int .i64 h1, .int .i64 s1], .agg #[.int .i64 l2, .int .i64 h2, .int .i64 s2]] w fun e w' => e = .returned (.tuple #[.agg #[.int .i64 0, .int .i64 0, .int .i64 0], .int .i64 (chk2 l1 h1 s1 l2 h2 s2)]) ∧ Below w.heap.size w w' := by
  have hn : (chk2 l1 h1 s1 l2 h2 s2 != 0) = true := by simp [hk]
  clear hk
  go_enter Try.func44, Try.ntmps44
  go_wp2_with fail
  refine (checkBoth_any _ _ _ _ _ _ _ hl hh hs hl2 hh2 hs2).mono ?_
  rintro e w1 ⟨rfl, hb1⟩
  obtain ⟨W1, z1, ⟨x0, x1, x2⟩, ⟨y0, y1, y2⟩, ⟨r0, r1, r2⟩, f0, f1, f2⟩ := res33 hb1
  clear hb1 x0 x1 x2 y0 y1 y2
  go_wp2
  refine bodyPost_ret (v := .tuple #[.agg #[.int .i64 0, .int .i64 0, .int .i64 0], .int .i64 (chk2 l1 h1 s1 l2 h2 s2)]) (by simp [results, Try.results44, go_sem, *]) rfl ⟨rfl, ?_⟩
  repeat (first | exact W1.out | refine Below.setCell ?_ (by simp; try omega) _)

set_option maxHeartbeats 800000 in
theorem Within_bad (l1 h1 s1 l2 h2 s2 : Int) (w : World) (hl : I64 l1) (hh : I64 h1) (hs : I64 s1) (hl2 : I64 l2) (hh2 : I64 h2) (hs2 : I64 s2) (hk : ¬ chk2 l1 h1 s1 l2 h2 s2 = 0) :
    Calls Try.prog 46 #[.agg #[.int .i64 l1, .int .i64 h1, .int .i64 s1], .agg #[.int .i64 l2, .int .i64 h2, .int .i64 s2]] w fun e w' => e = .returned (.tuple #[.bool false, .int .i64 (chk2 l1 h1 s1 l2 h2 s2)]) ∧ Below w.heap.size w w' := by
  have hn : (chk2 l1 h1 s1 l2 h2 s2 != 0) = true := by simp [hk]
  clear hk
  go_enter Try.func46, Try.ntmps46
  go_wp2_with fail
  refine (checkBoth_any _ _ _ _ _ _ _ hl hh hs hl2 hh2 hs2).mono ?_
  rintro e w1 ⟨rfl, hb1⟩
  obtain ⟨W1, z1, ⟨x0, x1, x2⟩, ⟨y0, y1, y2⟩⟩ := pair6 hb1
  clear hb1 x0 x1 x2 y0 y1 y2
  go_wp2
  refine bodyPost_ret (v := .tuple #[.bool false, .int .i64 (chk2 l1 h1 s1 l2 h2 s2)]) (by simp [results, Try.results46, go_sem, *]) rfl ⟨rfl, ?_⟩
  repeat (first | exact W1.out | refine Below.setCell ?_ (by simp; try omega) _)

set_option maxHeartbeats 800000 in
theorem Subtract_bad (l1 h1 s1 l2 h2 s2 : Int) (w : World) (hl : I64 l1) (hh : I64 h1) (hs : I64 s1) (hl2 : I64 l2) (hh2 : I64 h2) (hs2 : I64 s2) (hk : ¬ chk2 l1 h1 s1 l2 h2 s2 = 0) :
    Calls Try.prog 42 #[.agg #[.int .i64 l1, .int .i64 h1, .int .i64 s1], .agg #[.int .i64 l2, .int .i64 h2, .int .i64 s2]] w fun e w' => e = .returned (.tuple #[.slice none 0 0, .int .i64 (chk2 l1 h1 s1 l2 h2 s2)]) ∧ Below w.heap.size w w' := by
  have hn : (chk2 l1 h1 s1 l2 h2 s2 != 0) = true := by simp [hk]
  clear hk
  go_enter Try.func42, Try.ntmps42
  go_wp2_with fail
  refine (checkBoth_any _ _ _ _ _ _ _ hl hh hs hl2 hh2 hs2).mono ?_
  rintro e w1 ⟨rfl, hb1⟩
  obtain ⟨W1, z1, ⟨x0, x1, x2⟩, ⟨y0, y1, y2⟩⟩ := pair6 hb1
  clear hb1 x0 x1 x2 y0 y1 y2
  go_wp2
  refine bodyPost_ret (v := .tuple #[.slice none 0 0, .int .i64 (chk2 l1 h1 s1 l2 h2 s2)]) (by simp [results, Try.results42, go_sem, *]) rfl ⟨rfl, ?_⟩
  repeat (first | exact W1.out | refine Below.setCell ?_ (by simp; try omega) _)
end Go.Proofs.Ytdifilndpilboaa
