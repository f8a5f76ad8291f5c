/-
  The first numbers of a range and the others, as lists.
-/
import Derived.Test.YtdifilndpilboaaByB
import Derived.WalkKit
import Derived.Deep.RegionWith
import Derived.Deep.DeepCutAuto
import Derived.Deep.LoopGhost
import Derived.Deep.CutBlock
import Derived.WalkSpells
import Derived.WalkLawsBesides
import Derived.BigQuiet
import Derived.Deep.QuietTactic
import Derived.Deep.RegionHeld3
import Derived.Deep.DrawnRows
import Derived.Lib.Hide
namespace Go.Proofs.Ytdifilndpilboaa
open Go.RowKit

theorem siz_single (x : Int) (h : -1000000 ≤ x ∧ x ≤ 1000000) : chk x x 1 = 0 ∧ siz x x 1 = 1 := by
  have c := chk_nrm x x 1 false (by omega) (by omega) (by simp)
  rw [if_neg (by omega)] at c
  have e := nrm_one x 1 false
  unfold nrm at e
  simp only [Prod.mk.injEq] at e
  rw [e.1, e.2.1, e.2.2] at c
  exact ⟨c, by rw [siz_ok c (by omega)]; simp [magA]⟩
theorem nums_prog {lo hi M : Int} {dn : Bool} {c : Nat} (hM : 1 ≤ M) (hc : 1 ≤ c) (he : hi - lo = ((c : Int) - 1) * M) (h0 : -1000000 ≤ lo) (h1 : hi ≤ 1000000) :
    chk (nrm lo hi M dn).1 (nrm lo hi M dn).2.1 (nrm lo hi M dn).2.2 = 0 ∧ siz (nrm lo hi M dn).1 (nrm lo hi M dn).2.1 (nrm lo hi M dn).2.2 = c ∧
      numsL (nrm lo hi M dn).1 (nrm lo hi M dn).2.1 (nrm lo hi M dn).2.2 = (List.range c).map (fun j : Nat => if dn = true then hi - (j : Int) * M else lo + (j : Int) * M) := by
  by_cases one : c = 1
  · subst one
    have e : hi = lo := by simp at he; omega
    subst e
    obtain ⟨k, z⟩ := siz_single hi ⟨h0, h1⟩
    rw [nrm_one]
    refine ⟨k, by rw [z]; rfl, ?_⟩
    show numsU hi hi 1 (siz hi hi 1).toNat = _
    rw [z]
    simp [numsU, nthV, List.range_succ]
  · have p : M ≤ ((c : Int) - 1) * M := by
      have := Int.mul_le_mul_of_nonneg_right (show (1 : Int) ≤ (c : Int) - 1 by omega) (show 0 ≤ M by omega)
      omega
    have lt : lo < hi := by omega
    have hd : (hi - lo) % M = 0 := by rw [he]; exact Int.mul_emod_left _ _
    have k := chk_nrm lo hi M dn (by omega) hM hd
    rw [if_neg (by omega)] at k
    have e := nrm_two lt M dn
    have e' := e
    unfold nrm at e'
    simp only [Prod.mk.injEq] at e'
    rw [e'.1, e'.2.1, e'.2.2] at k
    rw [e]
    have mg : magA (if dn = true then -M else M) = M := by cases dn <;> simp [magA] <;> omega
    have z : siz lo hi (if dn = true then -M else M) = c := by
      rw [siz_ok k (by omega), mg, he, Int.mul_ediv_cancel _ (by omega)]; omega
    refine ⟨k, z, ?_⟩
    show numsU lo hi (if dn = true then -M else M) (siz lo hi (if dn = true then -M else M)).toNat = _
    rw [z]
    unfold numsU
    rw [show (c : Int).toNat = c by omega]
    refine List.map_congr_left fun j _ => ?_
    unfold nthV
    rw [mg]
    cases dn
    · rw [if_neg (by simp; omega), if_neg (by decide)]
    · rw [if_pos (by simp; omega), if_pos rfl]
/-- what Count returns, with its numbers -/
def CountP (l h s n : Int) (c : Nat) (xs : List Int) : Prop := ∃ x y z : Int, Ret4 30 l h s n x y z 0 ∧ chk x y z = 0 ∧ siz x y z = c ∧ numsL x y z = xs
theorem count_zero (l h s : Int) (hk : chk l h s = 0) : CountP l h s 0 0 [] := by
  refine ⟨1, 0, 1, ?_, by decide, by decide, by decide⟩
  by_cases hp : 0 < s
  · exact countUp l h s 0 0 _ _ _ _ hp (Lib.hid (by decide)) (intZero l h s hk)
  · exact countDown l h s 0 _ _ _ _ hp (intZero l h s hk)
theorem count_first (l h s : Int) (i : Nat) (hk : chk l h s = 0) (hi : (i : Int) ≤ siz l h s) : CountP l h s i i (numsU l h s i) := by
  by_cases i0 : i = 0
  · subst i0; exact count_zero l h s hk
  · have le : l ≤ h := by
      by_cases c : l ≤ h
      · exact c
      · have := empty_a hk c; omega
    have bA := chk_bounds hk
    have sb := siz_bdn hk
    obtain ⟨st, z1, m1, s0⟩ := steps_a hk le
    have q := Int.mul_le_mul_of_nonneg_right (show (i : Int) - 1 ≤ siz l h s - 1 by omega) (show 0 ≤ magA s by omega)
    have p1 : 0 ≤ ((i : Int) - 1) * magA s := Int.mul_nonneg (by omega) (by omega)
    by_cases hp : 0 < s
    · have n := nums_prog (lo := l) (hi := l + ((i : Int) - 1) * magA s) (M := magA s) (dn := decide (s < 0)) (c := i) (by omega) (by omega) (by omega) (by omega) (by omega)
      have r := countUp l h s i (-i) _ _ _ _ hp (IntWalk.i64_in _ (by omega)) (intDown l h s (-i) hk le (by omega) (by omega))
      rw [Int.neg_neg] at r
      refine ⟨_, _, _, r, n.1, n.2.1, n.2.2.trans ?_⟩
      unfold numsU
      refine List.map_congr_left fun j _ => ?_
      unfold nthV
      rw [if_neg (by simp; omega), if_neg (by omega)]
    · have n := nums_prog (lo := h - ((i : Int) - 1) * magA s) (hi := h) (M := magA s) (dn := decide (s < 0)) (c := i) (by omega) (by omega) (by omega) (by omega) (by omega)
      have r := countDown l h s i _ _ _ _ hp (intUp l h s i hk le (by omega) (by omega))
      refine ⟨_, _, _, r, n.1, n.2.1, n.2.2.trans ?_⟩
      unfold numsU
      refine List.map_congr_left fun j _ => ?_
      unfold nthV
      rw [if_pos (by simp; omega), if_pos (by omega)]
theorem count_last (l h s : Int) (i c : Nat) (hk : chk l h s = 0) (hi : (i : Int) + c = siz l h s) : CountP l h s (i - siz l h s) c ((List.range c).map (fun j => nthV l h s (i + j))) := by
  by_cases c0 : c = 0
  · subst c0
    rw [show (i : Int) - siz l h s = 0 by omega]
    exact count_zero l h s hk
  · have le : l ≤ h := by
      by_cases c : l ≤ h
      · exact c
      · have := empty_a hk c; omega
    have bA := chk_bounds hk
    have sb := siz_bdn hk
    obtain ⟨st, z1, m1, s0⟩ := steps_a hk le
    have e : h - l = (i : Int) * magA s + ((c : Int) - 1) * magA s := by rw [st, ← Int.add_mul]; congr 1; omega
    have q0 : 0 ≤ (i : Int) * magA s := Int.mul_nonneg (by omega) (by omega)
    have p1 : 0 ≤ ((c : Int) - 1) * magA s := Int.mul_nonneg (by omega) (by omega)
    rw [show (i : Int) - siz l h s = -(c : Int) by omega]
    by_cases hp : 0 < s
    · have n := nums_prog (lo := h - ((c : Int) - 1) * magA s) (hi := h) (M := magA s) (dn := decide (s < 0)) (c := c) (by omega) (by omega) (by omega) (by omega) (by omega)
      have r := countUp l h s (-c) c _ _ _ _ hp (Lib.hid (by rw [Int.neg_neg]; exact IntWalk.i64_in _ (by omega))) (intUp l h s c hk le (by omega) (by omega))
      refine ⟨_, _, _, r, n.1, n.2.1, n.2.2.trans (List.map_congr_left fun j _ => ?_)⟩
      unfold nthV
      rw [if_neg (by simp; omega), if_neg (by omega)]
      push_cast
      rw [Int.add_mul]
      omega
    · have n := nums_prog (lo := l) (hi := l + ((c : Int) - 1) * magA s) (M := magA s) (dn := decide (s < 0)) (c := c) (by omega) (by omega) (by omega) (by omega) (by omega)
      have r := countDown l h s (-c) _ _ _ _ hp (intDown l h s (-c) hk le (by omega) (by omega))
      rw [Int.neg_neg] at r
      refine ⟨_, _, _, r, n.1, n.2.1, n.2.2.trans (List.map_congr_left fun j _ => ?_)⟩
      unfold nthV
      rw [if_pos (by simp; omega), if_pos (by omega)]
      push_cast
      rw [Int.add_mul]
      omega
theorem nums_cat (l h s : Int) (i c : Nat) (hi : (i : Int) + c = siz l h s) : numsU l h s i ++ (List.range c).map (fun j => nthV l h s (i + j)) = numsL l h s := by
  unfold numsL numsU
  rw [show (siz l h s).toNat = i + c by omega, List.range_add, List.map_append, List.map_map]
  rfl
end Go.Proofs.Ytdifilndpilboaa
