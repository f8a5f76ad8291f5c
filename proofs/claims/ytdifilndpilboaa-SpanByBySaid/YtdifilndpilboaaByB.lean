/-
  By of By, By backwards, and the first numbers and the others, as lists.
-/
import Derived.Test.YtdifilndpilboaaByA
import Derived.Test.YtdifilndpilboaaPairB
import Derived.Test.YtdifilndpilboaaLawOr
import Derived.WalkKit
import Derived.Deep.RegionWith
import Derived.Deep.DeepCutAuto
import Derived.Deep.LoopGhost
import Derived.Deep.CutBlock
import Derived.WalkSpells
import Derived.WalkLawsBesides
import Derived.BigQuiet
import Derived.Deep.QuietTactic
import Derived.Deep.RegionHeld3
import Derived.Deep.DrawnRows
import Derived.Lib.Hide
namespace Go.Proofs.Ytdifilndpilboaa
open Go.RowKit

/-- the range that By returns -/
def byT (l h s n : Int) : R3 := nrm (byLo l h (magA s) (decide (s < 0)) n) (byHi l h (magA s) (decide (s < 0)) n) (magA s * magA n) (byDn (decide (s < 0)) n)
theorem by_ret (l h s n : Int) (hk : chk l h s = 0) (hle : l ≤ h) (n0 : ¬ n = 0) (n1 : -1000000 ≤ n) (n2 : n ≤ 1000000) :
    Ret4 28 l h s n (byT l h s n).1 (byT l h s n).2.1 (byT l h s n).2.2 0 := fun w => By_ok l h s n w (Lib.hid hk) hle n0 n1 n2
theorem byT_chk (l h s n : Int) (hk : chk l h s = 0) (hle : l ≤ h) (n0 : ¬ n = 0) : chk (byT l h s n).1 (byT l h s n).2.1 (byT l h s n).2.2 = 0 := by
  have bA := chk_bounds hk
  have p : 1 ≤ magA s * magA n := by
    have : 1 ≤ magA n := by unfold magA; split <;> omega
    have := Int.mul_le_mul (show 1 ≤ magA s by omega) this (by omega) (by omega)
    omega
  exact by_chk l h (magA s) n _ (by omega) hle (by omega) p
theorem nrm_one (x st : Int) (dn : Bool) : nrm x x st dn = (x, x, 1) := by
  unfold nrm nL nH nS
  rw [if_neg (by omega), if_neg (by omega), if_neg (by omega), if_pos rfl]
theorem nrm_two {lo hi : Int} (c : lo < hi) (st : Int) (dn : Bool) : nrm lo hi st dn = (lo, hi, if dn = true then -st else st) := by
  unfold nrm nL nH nS
  rw [if_neg (by omega), if_neg (by omega), if_neg (by omega), if_neg (by omega)]
theorem emod_part {X A n : Int} (hA : 1 ≤ A) (hn : 1 ≤ n) : (X - X % A) % (A * n) = X % (A * n) - X % A := by
  have p : 1 ≤ A * n := by
    have := Int.mul_le_mul hA hn (by omega) (by omega); omega
  have y0 := Int.emod_nonneg X (show A * n ≠ 0 by omega)
  have y1 := Int.emod_lt_of_pos X (show 0 < A * n by omega)
  have e1 : (X % (A * n)) % A = X % A := Int.emod_emod_of_dvd X (Int.dvd_mul_right A n)
  have e2 := Int.emod_nonneg (X % (A * n)) (show A ≠ 0 by omega)
  have e3 : (X % (A * n)) % A ≤ X % (A * n) := by
    have := Int.mul_ediv_add_emod (X % (A * n)) A
    have q := Int.mul_nonneg (show 0 ≤ A by omega) (Int.ediv_nonneg y0 (show 0 ≤ A by omega))
    omega
  have e4 : X - X % A = (X % (A * n) - X % A) + (A * n) * (X / (A * n)) := by
    have := Int.mul_ediv_add_emod X (A * n); omega
  rw [e4, Int.add_mul_emod_self_left]
  exact Int.emod_eq_of_lt (by omega) (by have := Int.emod_nonneg X (show A ≠ 0 by omega); omega)
theorem emod_small {X A n : Int} (hA : 1 ≤ A) (hn : 1 ≤ n) (h0 : 0 ≤ X) (hX : X % A = X) : X % (A * n) = X := by
  have lt := Int.emod_lt_of_pos X (show 0 < A by omega)
  have : A ≤ A * n := by
    have := Int.mul_le_mul_of_nonneg_left hn (show 0 ≤ A by omega); omega
  exact Int.emod_eq_of_lt h0 (by omega)
theorem byT_up {l h s m : Int} (hs : ¬ s < 0) (hm : 1 ≤ m) : byT l h s m = nrm l (h - (h - l) % (magA s * m)) (magA s * m) false := by
  unfold byT byLo byHi byDn
  rw [decide_eq_false hs, decide_eq_false (show ¬ m < 0 by omega), magA_pos (show 0 ≤ m by omega)]
  rfl
theorem byT_down {l h s m : Int} (hs : s < 0) (hm : 1 ≤ m) : byT l h s m = nrm (l + (h - l) % (magA s * m)) h (magA s * m) true := by
  unfold byT byLo byHi byDn
  rw [decide_eq_true hs, decide_eq_false (show ¬ m < 0 by omega), magA_pos (show 0 ≤ m by omega)]
  rfl
theorem by_by (l h s m n : Int) (hk : chk l h s = 0) (hle : l ≤ h) (hm : 1 ≤ m) (hn : 1 ≤ n) :
    byT (byT l h s m).1 (byT l h s m).2.1 (byT l h s m).2.2 n = byT l h s (m * n) := by
  have bA := chk_bounds hk
  have pmn : 1 ≤ m * n := by
    have := Int.mul_le_mul hm hn (by omega) (by omega); omega
  have pA : 1 ≤ magA s * m := by
    have := Int.mul_le_mul (show 1 ≤ magA s by omega) hm (by omega) (by omega); omega
  have r0 := Int.emod_nonneg (h - l) (show magA s * m ≠ 0 by omega)
  have rle : (h - l) % (magA s * m) ≤ h - l := by
    have := Int.mul_ediv_add_emod (h - l) (magA s * m)
    have q := Int.mul_nonneg (show 0 ≤ magA s * m by omega) (Int.ediv_nonneg (show 0 ≤ h - l by omega) (show 0 ≤ magA s * m by omega))
    omega
  have asc : magA s * (m * n) = magA s * m * n := (Int.mul_assoc _ _ _).symm
  by_cases hs : s < 0
  · rw [byT_down hs hm, byT_down hs pmn, asc]
    by_cases e : l + (h - l) % (magA s * m) = h
    · rw [e, nrm_one]
      have z : (h - l) % (magA s * m) = h - l := by omega
      rw [emod_small pA hn (by omega) z, show l + (h - l) = h by omega, nrm_one]
      show byT h h 1 n = _
      rw [byT_up (by omega) hn, Int.sub_self, Int.zero_emod, Int.sub_zero, nrm_one]
    · rw [nrm_two (by omega)]
      show byT (l + (h - l) % (magA s * m)) h (if true = true then -(magA s * m) else magA s * m) n = _
      rw [if_pos rfl, byT_down (by omega) hn, magA_neg (n := -(magA s * m)) (by omega), Int.neg_neg]
      rw [show h - (l + (h - l) % (magA s * m)) = (h - l) - (h - l) % (magA s * m) by omega, emod_part pA hn]
      rw [show l + (h - l) % (magA s * m) + ((h - l) % (magA s * m * n) - (h - l) % (magA s * m)) = l + (h - l) % (magA s * m * n) by omega]
  · rw [byT_up hs hm, byT_up hs pmn, asc]
    by_cases e : h - (h - l) % (magA s * m) = l
    · rw [e, nrm_one]
      have z : (h - l) % (magA s * m) = h - l := by omega
      rw [emod_small pA hn (by omega) z, show h - (h - l) = l by omega, nrm_one]
      show byT l l 1 n = _
      rw [byT_up (by omega) hn, Int.sub_self, Int.zero_emod, Int.sub_zero, nrm_one]
    · rw [nrm_two (by omega)]
      show byT l (h - (h - l) % (magA s * m)) (if false = true then -(magA s * m) else magA s * m) n = _
      rw [if_neg (by decide), byT_up (by omega) hn, magA_pos (n := magA s * m) (by omega)]
      rw [show h - (h - l) % (magA s * m) - l = (h - l) - (h - l) % (magA s * m) by omega, emod_part pA hn]
      rw [show h - (h - l) % (magA s * m) - ((h - l) % (magA s * m * n) - (h - l) % (magA s * m)) = h - (h - l) % (magA s * m * n) by omega]
theorem step_zero {l h s : Int} (hk : chk l h s = 0) (hle : l ≤ h) : (h - l) % (magA s * 1) = 0 := by
  obtain ⟨st, _⟩ := steps_a hk hle
  rw [Int.mul_one]
  exact Int.emod_eq_zero_of_dvd ⟨siz l h s - 1, by rw [st, Int.mul_comm]⟩
theorem byT_back {l h s : Int} (hk : chk l h s = 0) (hle : l ≤ h) : byT l h s (-1) = nrm l h (magA s) (!decide (s < 0)) := by
  unfold byT byLo byHi byDn
  rw [show magA (-1) = 1 from rfl, step_zero hk hle, decide_eq_true (show (-1 : Int) < 0 by omega), Int.mul_one]
  cases decide (s < 0) <;> simp
theorem by_back (l h s : Int) (hk : chk l h s = 0) (hle : l ≤ h) : byT (byT l h s (-1)).1 (byT l h s (-1)).2.1 (byT l h s (-1)).2.2 (-1) = (l, h, s) := by
  have bA := chk_bounds hk
  have ck := byT_chk l h s (-1) hk hle (by omega)
  rw [byT_back hk hle] at ck ⊢
  rcases chk_zero hk with ⟨rfl, rfl, rfl⟩ | ⟨_, _, _, s0, _, _, _, _, _, one⟩
  · omega
  · by_cases e : l = h
    · subst e
      rw [nrm_one] at ck ⊢
      show byT l l 1 (-1) = _
      rw [byT_back ck (by omega), nrm_one, one rfl]
    · rw [nrm_two (by omega)] at ck ⊢
      have S' : (if (!decide (s < 0)) = true then -magA s else magA s) = -s := by
        by_cases c : s < 0
        · rw [if_neg (by simp [c]), magA_neg c]
        · rw [if_pos (by simp; omega), magA_pos (n := s) (by omega)]
      rw [S'] at ck ⊢
      show byT l h (-s) (-1) = _
      rw [byT_back (l := l) (h := h) (s := -s) ck (show l ≤ h by omega), nrm_two (show l < h by omega)]
      by_cases c : s < 0
      · rw [if_pos (by simp; omega), magA_pos (n := -s) (by omega), Int.neg_neg]
      · rw [if_neg (by simp; omega), magA_neg (n := -s) (by omega), Int.neg_neg]
end Go.Proofs.Ytdifilndpilboaa
