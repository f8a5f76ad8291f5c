/-
  The contracts of the reference's far and limited.
-/
import Derived.Test.YtdifilndpilboaaSpanL
import Derived.WalkKit
import Derived.WalkSpells
import Derived.WalkLawsBesides
import Derived.BigQuiet
import Derived.Deep.QuietTactic
import Derived.Deep.RegionHeld3
import Derived.Deep.DrawnRows
import Derived.Lib.Hide
namespace Go.Proofs.Ytdifilndpilboaa
open Go.RowKit

theorem far_no (n : Int) (w : World) (h1 : -2000000 ≤ n) (h2 : n ≤ 2000000) :
    Calls Try.prog 112 #[.int .i64 n] w fun e w' => e = .returned (.bool false) ∧ w = w' := by
  have d1 : decide (2000000 < n) = false := by simp; omega
  have d2 : decide (n < -2000000) = false := by simp; omega
  go_enter Try.func112, Try.ntmps112
  go_wp2
  go_ret
  exact ⟨rfl, rfl⟩
theorem far_yes (n : Int) (w : World) (h : ¬ (-2000000 ≤ n ∧ n ≤ 2000000)) :
    Calls Try.prog 112 #[.int .i64 n] w fun e w' => e = .returned (.bool true) ∧ w = w' := by
  by_cases c : 2000000 < n
  · have d1 : decide (2000000 < n) = true := by simp [c]
    clear h
    go_enter Try.func112, Try.ntmps112
    go_wp2
    go_ret
    exact ⟨rfl, rfl⟩
  · have d1 : decide (2000000 < n) = false := by simp; omega
    have d2 : decide (n < -2000000) = true := by simp; omega
    clear h
    go_enter Try.func112, Try.ntmps112
    go_wp2
    go_ret
    exact ⟨rfl, rfl⟩

set_option maxHeartbeats 800000 in
theorem lim_none (lo hi st : Int) (dn : Bool) (w : World) (h : hi < lo) (s1 : -4000000000000 ≤ st) (s2 : st ≤ 4000000000000) :
    Calls Try.prog 113 #[.int .i64 lo, .int .i64 hi, .int .i64 st, .bool dn] w fun e w' => e = .returned (.tuple #[.agg #[.int .i64 (nL lo hi), .int .i64 (nH lo hi), .int .i64 (nS lo hi st dn)], .int .i64 0]) ∧ Below w.heap.size w w' := by
  go_enter Try.func113, Try.ntmps113
  go_wp2_with fail
  refine (refNormal_any _ _ _ _ _ s1 s2).mono ?_
  rintro e w1 ⟨rfl, hb1⟩
  obtain ⟨W1, z1, ⟨x0, x1, x2⟩, f0, f1, f2⟩ := res1 hb1
  clear hb1
  go_wp2
  refine bodyPost_ret (v := .tuple #[.agg #[.int .i64 (nL lo hi), .int .i64 (nH lo hi), .int .i64 (nS lo hi st dn)], .int .i64 0]) (by simp [results, Try.results113, go_sem, *]) rfl ⟨rfl, ?_⟩
  repeat (first | exact Below.refl _ _ | exact W1.out | refine Below.alloc ?_ (by simp; try omega) _ | refine Below.setCell ?_ (by simp; try omega) _)

set_option maxHeartbeats 800000 in
theorem lim_in (lo hi st : Int) (dn : Bool) (w : World) (h : lo ≤ hi) (h1 : -1000000 ≤ lo) (h2 : hi ≤ 1000000) (h3 : lo ≤ 1000000) (h4 : -1000000 ≤ hi) (s1 : -4000000000000 ≤ st) (s2 : st ≤ 4000000000000) :
    Calls Try.prog 113 #[.int .i64 lo, .int .i64 hi, .int .i64 st, .bool dn] w fun e w' => e = .returned (.tuple #[.agg #[.int .i64 (nL lo hi), .int .i64 (nH lo hi), .int .i64 (nS lo hi st dn)], .int .i64 0]) ∧ Below w.heap.size w w' := by
  go_enter Try.func113, Try.ntmps113
  go_wp2_with fail
  refine (within_yes _ _ h1 h3).mono ?_
  rintro e w' ⟨rfl, rfl⟩
  go_wp2_with fail
  refine (within_yes _ _ h4 h2).mono ?_
  rintro e w' ⟨rfl, rfl⟩
  go_wp2_with fail
  refine (refNormal_any _ _ _ _ _ s1 s2).mono ?_
  rintro e w1 ⟨rfl, hb1⟩
  obtain ⟨W1, z1, ⟨x0, x1, x2⟩, f0, f1, f2⟩ := res1 hb1
  clear hb1
  go_wp2
  refine bodyPost_ret (v := .tuple #[.agg #[.int .i64 (nL lo hi), .int .i64 (nH lo hi), .int .i64 (nS lo hi st dn)], .int .i64 0]) (by simp [results, Try.results113, go_sem, *]) rfl ⟨rfl, ?_⟩
  repeat (first | exact Below.refl _ _ | exact W1.out | refine Below.alloc ?_ (by simp; try omega) _ | refine Below.setCell ?_ (by simp; try omega) _)

set_option maxHeartbeats 800000 in
theorem lim_lo (lo hi st : Int) (dn : Bool) (w : World) (h : lo ≤ hi) (h1 : Hid (¬ (-1000000 ≤ lo ∧ lo ≤ 1000000))) :
    Calls Try.prog 113 #[.int .i64 lo, .int .i64 hi, .int .i64 st, .bool dn] w fun e w' => e = .returned (.tuple #[.agg #[.int .i64 0, .int .i64 0, .int .i64 0], .int .i64 4]) ∧ Below w.heap.size w w' := by
  go_enter Try.func113, Try.ntmps113
  go_wp2_with fail
  refine (within_no _ _ h1.out).mono ?_
  rintro e w' ⟨rfl, rfl⟩
  go_wp2
  refine bodyPost_ret (v := .tuple #[.agg #[.int .i64 0, .int .i64 0, .int .i64 0], .int .i64 4]) (by simp [results, Try.results113, go_sem, *]) rfl ⟨rfl, ?_⟩
  repeat (first | exact Below.refl _ _ | exact W1.out | refine Below.alloc ?_ (by simp; try omega) _ | refine Below.setCell ?_ (by simp; try omega) _)

set_option maxHeartbeats 800000 in
theorem lim_hi (lo hi st : Int) (dn : Bool) (w : World) (h : lo ≤ hi) (h1 : -1000000 ≤ lo) (h3 : lo ≤ 1000000) (h2 : Hid (¬ (-1000000 ≤ hi ∧ hi ≤ 1000000))) :
    Calls Try.prog 113 #[.int .i64 lo, .int .i64 hi, .int .i64 st, .bool dn] w fun e w' => e = .returned (.tuple #[.agg #[.int .i64 0, .int .i64 0, .int .i64 0], .int .i64 4]) ∧ Below w.heap.size w w' := by
  go_enter Try.func113, Try.ntmps113
  go_wp2_with fail
  refine (within_yes _ _ h1 h3).mono ?_
  rintro e w' ⟨rfl, rfl⟩
  go_wp2_with fail
  refine (within_no _ _ h2.out).mono ?_
  rintro e w' ⟨rfl, rfl⟩
  go_wp2
  refine bodyPost_ret (v := .tuple #[.agg #[.int .i64 0, .int .i64 0, .int .i64 0], .int .i64 4]) (by simp [results, Try.results113, go_sem, *]) rfl ⟨rfl, ?_⟩
  repeat (first | exact Below.refl _ _ | exact W1.out | refine Below.alloc ?_ (by simp; try omega) _ | refine Below.setCell ?_ (by simp; try omega) _)


/-- what limited returns: the normal range, or the error -/
theorem lim_bad (lo hi st : Int) (dn : Bool) (w : World) (h : lo ≤ hi) (h1 : lo < -1000000 ∨ 1000000 < hi) :
    Calls Try.prog 113 #[.int .i64 lo, .int .i64 hi, .int .i64 st, .bool dn] w fun e w' => e = .returned (.tuple #[.agg #[.int .i64 0, .int .i64 0, .int .i64 0], .int .i64 4]) ∧ Below w.heap.size w w' := by
  by_cases c : -1000000 ≤ lo ∧ lo ≤ 1000000
  · exact lim_hi lo hi st dn w h c.1 c.2 (show ¬ _ by omega)
  · exact lim_lo lo hi st dn w h c
theorem lim_good (lo hi st : Int) (dn : Bool) (w : World) (h : lo ≤ hi → -1000000 ≤ lo ∧ hi ≤ 1000000) (s1 : -4000000000000 ≤ st) (s2 : st ≤ 4000000000000) :
    Calls Try.prog 113 #[.int .i64 lo, .int .i64 hi, .int .i64 st, .bool dn] w fun e w' => e = .returned (.tuple #[.agg #[.int .i64 (nL lo hi), .int .i64 (nH lo hi), .int .i64 (nS lo hi st dn)], .int .i64 0]) ∧ Below w.heap.size w w' := by
  by_cases c : hi < lo
  · exact lim_none lo hi st dn w c s1 s2
  · have := h (by omega)
    exact lim_in lo hi st dn w (by omega) this.1 this.2 (by omega) (by omega) s1 s2
/-- limited at two ends returns a range and an error -/
def LimTo (lo hi st : Int) (dn : Bool) (a b c e : Int) : Prop := ∀ w : World, Calls Try.prog 113 #[.int .i64 lo, .int .i64 hi, .int .i64 st, .bool dn] w fun e' w' => e' = .returned (.tuple #[.agg #[.int .i64 a, .int .i64 b, .int .i64 c], .int .i64 e]) ∧ Below w.heap.size w w'
end Go.Proofs.Ytdifilndpilboaa
