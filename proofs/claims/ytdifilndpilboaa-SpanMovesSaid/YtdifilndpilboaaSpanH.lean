/-
  The contract of span.By at a right range that is not empty, and of the law's awake.
-/
import Derived.Test.YtdifilndpilboaaSpanG
import Derived.WalkKit
import Derived.WalkSpells
import Derived.WalkLawsBesides
import Derived.BigQuiet
import Derived.Deep.QuietTactic
import Derived.Deep.RegionHeld3
import Derived.Deep.DrawnRows
import Derived.Lib.Hide
namespace Go.Proofs.Ytdifilndpilboaa
open Go.RowKit

theorem sub_mod (a m : Int) : (a - a % m) % m = 0 := by
  have := Int.mul_ediv_add_emod a m
  have e : a - a % m = m * (a / m) := by omega
  rw [e]; exact Int.mul_emod_right _ _

/-- the error of a normal range of one number or more -/
theorem chk_nrm (l h st : Int) (dn : Bool) (h1 : l ≤ h) (h2 : 1 ≤ st) (h3 : (h - l) % st = 0) : chk (nL l h) (nH l h) (nS l h st dn) = if l < -1000000 ∨ 1000000 < h then 4 else 0 := by
  have e1 : nL l h = l := if_neg (by omega)
  have e2 : nH l h = h := if_neg (by omega)
  rw [e1, e2]
  have c1 : reqB l h (nS l h st dn) 1 0 1 = false := by unfold reqB; simp; omega
  have c2 : fmd l h (nS l h st dn) = true := by
    unfold fmd nS
    rw [if_neg (by omega)]
    by_cases c : l = h
    · simp [c]
    · rw [if_neg c]
      have d : l < h := by omega
      cases dn
      · have : st ≠ 0 := by omega
        simp [c, d, this, h3]
      · have : ¬ -st = 0 := by omega
        simp [c, d, h3, Int.emod_neg]; omega
  unfold chk; rw [c1, c2]; simp

theorem by_chk (l h m n : Int) (dn : Bool) (h0 : -1000000 ≤ l) (h1 : l ≤ h) (h2 : h ≤ 1000000) (h3 : 1 ≤ m * magA n) :
    chk (nL (byLo l h m dn n) (byHi l h m dn n)) (nH (byLo l h m dn n) (byHi l h m dn n)) (nS (byLo l h m dn n) (byHi l h m dn n) (m * magA n) (byDn dn n)) = 0 := by
  have r := rem_bd (h - l) (m * magA n) (by omega) h3
  have hs := sub_mod (h - l) (m * magA n)
  unfold byLo byHi
  cases byDn dn n
  · rw [if_neg (by simp), if_neg (by simp), chk_nrm _ _ _ _ (by omega) h3 (by rw [show h - (h - l) % (m * magA n) - l = h - l - (h - l) % (m * magA n) by omega]; exact hs), if_neg (by omega)]
  · rw [if_pos rfl, if_pos rfl, chk_nrm _ _ _ _ (by omega) h3 (by rw [show h - (l + (h - l) % (m * magA n)) = h - l - (h - l) % (m * magA n) by omega]; exact hs), if_neg (by omega)]

theorem by_64 (l h m n : Int) (dn : Bool) (h0 : -1000000 ≤ l) (h1 : l ≤ h) (h2 : h ≤ 1000000) (h3 : 1 ≤ m * magA n) : I64 (byLo l h m dn n) ∧ I64 (byHi l h m dn n) := by
  have r := rem_bd (h - l) (m * magA n) (by omega) h3
  unfold byLo byHi I64
  constructor <;> split <;> omega

/-- the three blocks that By lays first, behind a call -/
theorem res3b {w w1 : World} {t t' t'' : TypeId} {a b c d a' b' c' : Value} (hb : Below (((w.alloc (.cells #[a, b, c] t)).alloc (.cells #[d] t'')).alloc (.cells #[a', b', c'] t')).heap.size (((w.alloc (.cells #[a, b, c] t)).alloc (.cells #[d] t'')).alloc (.cells #[a', b', c'] t')) w1) :
    Hid (Below w.heap.size w w1) ∧ w.heap.size + 2 < w1.heap.size ∧ (w1.cell? ⟨w.heap.size, 0, none⟩ = some a ∧ w1.cell? ⟨w.heap.size, 1, none⟩ = some b ∧ w1.cell? ⟨w.heap.size, 2, none⟩ = some c) ∧ w1.cell? ⟨w.heap.size + 1, 0, none⟩ = some d ∧
      (w1.cell? ⟨w.heap.size + 1 + 1, 0, none⟩ = some a' ∧ w1.cell? ⟨w.heap.size + 1 + 1, 1, none⟩ = some b' ∧ w1.cell? ⟨w.heap.size + 1 + 1, 2, none⟩ = some c') ∧
      (w1.frozen? ⟨w.heap.size + 1 + 1, 0, none⟩ = false ∧ w1.frozen? ⟨w.heap.size + 1 + 1, 1, none⟩ = false ∧ w1.frozen? ⟨w.heap.size + 1 + 1, 2, none⟩ = false) := by
  have hs : w.heap.size + 1 + 1 < (((w.alloc (.cells #[a, b, c] t)).alloc (.cells #[d] t'')).alloc (.cells #[a', b', c'] t')).heap.size := by simp
  have hs0 : w.heap.size < (((w.alloc (.cells #[a, b, c] t)).alloc (.cells #[d] t'')).alloc (.cells #[a', b', c'] t')).heap.size := by simp <;> omega
  have hs1 : w.heap.size + 1 < (((w.alloc (.cells #[a, b, c] t)).alloc (.cells #[d] t'')).alloc (.cells #[a', b', c'] t')).heap.size := by simp <;> omega
  refine ⟨((((Below.refl _ _).alloc (Nat.le_refl _) _).alloc (by simp) _).alloc (by simp; omega) _).trans (hb.mono (by omega)), Nat.lt_of_lt_of_le hs hb.size, ⟨?_, ?_, ?_⟩, ?_, ⟨?_, ?_, ?_⟩, ?_, ?_, ?_⟩
  · rw [hb.cell (p := ⟨w.heap.size, 0, none⟩) hs0]; simp [go_sem]
  · rw [hb.cell (p := ⟨w.heap.size, 1, none⟩) hs0]; simp [go_sem]
  · rw [hb.cell (p := ⟨w.heap.size, 2, none⟩) hs0]; simp [go_sem]
  · rw [hb.cell (p := ⟨w.heap.size + 1, 0, none⟩) hs1]; simp [go_sem]
  · rw [hb.cell (p := ⟨w.heap.size + 1 + 1, 0, none⟩) hs]; simp [go_sem]
  · rw [hb.cell (p := ⟨w.heap.size + 1 + 1, 1, none⟩) hs]; simp [go_sem]
  · rw [hb.cell (p := ⟨w.heap.size + 1 + 1, 2, none⟩) hs]; simp [go_sem]
  · rw [hb.frozen (p := ⟨w.heap.size + 1 + 1, 0, none⟩) hs]; simp [go_sem]
  · rw [hb.frozen (p := ⟨w.heap.size + 1 + 1, 1, none⟩) hs]; simp [go_sem]
  · rw [hb.frozen (p := ⟨w.heap.size + 1 + 1, 2, none⟩) hs]; simp [go_sem]

set_option maxHeartbeats 800000 in
theorem By_ok (l h s n : Int) (w : World) (hk : Hid (chk l h s = 0)) (hle : l ≤ h) (n0 : ¬ n = 0) (n1 : -1000000 ≤ n) (n2 : n ≤ 1000000) :
    Calls Try.prog 28 #[.agg #[.int .i64 l, .int .i64 h, .int .i64 s], .int .i64 n] w fun e w' =>
      e = .returned (.tuple #[.agg #[.int .i64 (nL (byLo l h (magA s) (decide (s < 0)) n) (byHi l h (magA s) (decide (s < 0)) n)), .int .i64 (nH (byLo l h (magA s) (decide (s < 0)) n) (byHi l h (magA s) (decide (s < 0)) n)), .int .i64 (nS (byLo l h (magA s) (decide (s < 0)) n) (byHi l h (magA s) (decide (s < 0)) n) (magA s * magA n) (byDn (decide (s < 0)) n))], .int .i64 0]) ∧ Below w.heap.size w w' := by
  obtain ⟨b1, b2, b3, b4, b5, b6, b7, b8⟩ := chk_bounds hk.out
  have m1 : 1 ≤ magA n := by unfold magA; split <;> omega
  have m2 : magA n ≤ 1000000 := by unfold magA; split <;> omega
  have p := mul_le (magA s) (magA n) 2000000 1000000 b7 b8 m1 m2
  have R := Lib.hid (by_chk l h (magA s) n (decide (s < 0)) b1 hle (by omega) p.1)
  have B := Lib.hid (by_64 l h (magA s) n (decide (s < 0)) b1 hle (by omega) p.1)
  have n0' : (n == 0) = false := by simp [n0]
  go_enter Try.func28, Try.ntmps28
  go_wp2_with fail
  refine (check_ok l h s _ ⟨by omega, by omega⟩ ⟨by omega, by omega⟩ ⟨by omega, by omega⟩ hk).mono ?_
  rintro e w1 ⟨rfl, hb1⟩
  obtain ⟨W1, z1, ⟨x0, x1, x2⟩, xn, Y, F⟩ := res3b hb1
  have Y1 := Lib.hid Y
  have F1 := Lib.hid F
  clear hb1 Y F
  go_wp2_with fail
  refine (limited_yes _ _ n1 n2).mono ?_
  rintro e w' ⟨rfl, rfl⟩
  go_wp2_with fail
  refine (moved_By (w.heap.size + 1) 0 (.int .i64 n) l h s _ _ _ _ w1 hk hle xn (fun w' hw' => byClo l h (magA s) n (decide (s < 0)) (w.heap.size + 1) 0 w' hw' b1 hle (by omega) b7 b8 n0 n1 n2) B.out.1 B.out.2 (by omega) (by omega) R).mono ?_
  rintro e w2 ⟨rfl, hb2⟩
  have W2 := hidTrans W1 hb2 (by omega)
  obtain ⟨⟨y0, y1, y2⟩, f0, f1, f2⟩ := keepF hb2 z1 Y1.out F1.out
  clear hb2 W1 x0 x1 x2 xn
  go_wp2
  refine bodyPost_ret (v := .tuple #[.agg #[.int .i64 (nL (byLo l h (magA s) (decide (s < 0)) n) (byHi l h (magA s) (decide (s < 0)) n)), .int .i64 (nH (byLo l h (magA s) (decide (s < 0)) n) (byHi l h (magA s) (decide (s < 0)) n)), .int .i64 (nS (byLo l h (magA s) (decide (s < 0)) n) (byHi l h (magA s) (decide (s < 0)) n) (magA s * magA n) (byDn (decide (s < 0)) n))], .int .i64 0]) (by simp [results, Try.results28, go_sem, *]) rfl ⟨rfl, ?_⟩
  repeat (first | exact W2.out | refine Below.setCell ?_ (by simp; try omega) _)

/-- the chapter's example -/
theorem By_example (w : World) :
    Calls Try.prog 28 #[.agg #[.int .i64 1, .int .i64 10, .int .i64 3], .int .i64 (-2)] w fun e w' => e = .returned (.tuple #[.agg #[.int .i64 4, .int .i64 10, .int .i64 (-6)], .int .i64 0]) ∧ Below w.heap.size w w' :=
  By_ok 1 10 3 (-2) w (Lib.hid (by decide)) (by decide) (by decide) (by decide) (by decide)
theorem Of_example (w : World) :
    Calls Try.prog 15 #[.int .i64 1, .int .i64 10, .int .i64 3] w fun e w' => e = .returned (.tuple #[.agg #[.int .i64 1, .int .i64 10, .int .i64 3], .int .i64 0]) ∧ Below w.heap.size w w' := Of_any 1 10 3 w
theorem Size_example (w : World) :
    Calls Try.prog 23 #[.agg #[.int .i64 1, .int .i64 10, .int .i64 3]] w fun e w' => e = .returned (.int .i64 4) ∧ Below w.heap.size w w' := size_ok 1 10 3 w (Lib.hid (by decide)) (by decide)

set_option maxHeartbeats 800000 in
theorem awake_any (w : World) :
    Calls Try.prog 27 #[] w fun e w' => e = .returned (.bool true) ∧ Below w.heap.size w w' := by
  have hq := eq_range 4 10 (-6) 4 10 (-6)
  have hq' : reqB 4 10 (-6) 4 10 (-6) = true := by decide
  rw [hq'] at hq
  clear hq'
  go_enter Try.func27, Try.ntmps27
  go_wp2_with fail
  refine (Of_example _).mono ?_
  rintro e w1 ⟨rfl, hb1⟩
  have W1 := Lib.hid hb1
  clear hb1
  go_wp2_with fail
  refine (By_example _).mono ?_
  rintro e w2 ⟨rfl, hb2⟩
  obtain ⟨W2', z2, x0, x1, x2⟩ := box3 hb2
  have W2 := hidTrans W1 W2'.out W1.out.size
  clear hb2 W1 W2'
  go_wp2_with fail
  refine (Size_example _).mono ?_
  rintro e w3 ⟨rfl, hb3⟩
  obtain ⟨W3', z3, y0, y1, y2⟩ := box3 hb3
  have W3 := hidTrans W2 W3'.out W2.out.size
  clear hb3 W3' W2 x0 x1 x2
  go_wp2
  go_ret
  exact ⟨rfl, W3.out⟩
end Go.Proofs.Ytdifilndpilboaa
