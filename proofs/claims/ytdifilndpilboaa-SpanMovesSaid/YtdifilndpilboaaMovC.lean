/-
  What Expand, Interior and Exterior of the program return, for numbers on one side; the reference plays no part.
-/
import Derived.Test.YtdifilndpilboaaSpanL
import Derived.Test.YtdifilndpilboaaAlgN
import Derived.Lib.Hide
namespace Go.Proofs.Ytdifilndpilboaa
open Go.RowKit

theorem clampI_nearM (n : Int) (h1 : -2000000 ≤ n) (h2 : n ≤ 2000000) : clampI n = n := by unfold clampI; rw [if_neg (by omega), if_neg (by omega)]
theorem sub_mod_stepM (a k m : Int) (h : a % m = 0) : (a + k * m) % m = 0 := by rw [Int.add_mul_emod_self_right]; exact h
theorem prod_bdM (c m : Int) (h1 : -2000001 ≤ c) (h2 : c ≤ 2000001) (m0 : 1 ≤ m) (m1 : m ≤ 2000000) : -5000000000000 ≤ c * m ∧ c * m ≤ 5000000000000 := by
  have e1 : -2000001 * m ≤ c * m := Int.mul_le_mul_of_nonneg_right h1 (by omega)
  have e2 : c * m ≤ 2000001 * m := Int.mul_le_mul_of_nonneg_right h2 (by omega)
  omega
theorem chk_overM (l h st : Int) (dn : Bool) (c : h < l) : chk (nL l h) (nH l h) (nS l h st dn) = 0 := by unfold nL nH nS; rw [if_pos c, if_pos c, if_pos c]; decide
theorem nrm_overM (l h st : Int) (dn : Bool) (c : h < l) : nL l h = 1 ∧ nH l h = 0 ∧ nS l h st dn = 1 := ⟨if_pos c, if_pos c, if_pos c⟩
theorem expandOkM (l h s n : Int) (hk : chk l h s = 0) (hle : l ≤ h) (hc : chk (nL (l - clampI n * magA s) (h + clampI n * magA s)) (nH (l - clampI n * magA s) (h + clampI n * magA s)) (nS (l - clampI n * magA s) (h + clampI n * magA s) (magA s) (decide (s < 0))) = 0) :
    Ret4 34 l h s n (nL (l - clampI n * magA s) (h + clampI n * magA s)) (nH (l - clampI n * magA s) (h + clampI n * magA s)) (nS (l - clampI n * magA s) (h + clampI n * magA s) (magA s) (decide (s < 0))) 0 := by
  obtain ⟨b1, b2, b3, b4, b5, b6, b7, b8⟩ := chk_bounds hk
  have cb := clampI_bd n
  have pb := prod_bdM (clampI n) (magA s) cb.1 cb.2 b7 b8
  exact wrapExpand l h s n _ _ _ _ (Lib.hid fun b0 o w hw => moved_Expand b0 o _ l h s _ _ _ _ w hk hle hw (fun w' hw' => exClo l h _ (clampI n) _ b0 o w' hw' pb.1 pb.2 (by omega) (by omega) (by omega) (by omega) (by omega) (by omega) cb.1 cb.2) ⟨by omega, by omega⟩ ⟨by omega, by omega⟩ (by omega) (by omega) hc)
theorem expandBadM (l h s n : Int) (hk : chk l h s = 0) (hle : l ≤ h) (hc : chk (nL (l - clampI n * magA s) (h + clampI n * magA s)) (nH (l - clampI n * magA s) (h + clampI n * magA s)) (nS (l - clampI n * magA s) (h + clampI n * magA s) (magA s) (decide (s < 0))) = 4) :
    Ret4 34 l h s n 0 0 0 4 := by
  obtain ⟨b1, b2, b3, b4, b5, b6, b7, b8⟩ := chk_bounds hk
  have cb := clampI_bd n
  have pb := prod_bdM (clampI n) (magA s) cb.1 cb.2 b7 b8
  exact wrapExpand l h s n _ _ _ _ (Lib.hid fun b0 o w hw => movedBad_Expand b0 o _ l h s _ _ _ _ w hk hle hw (fun w' hw' => exClo l h _ (clampI n) _ b0 o w' hw' pb.1 pb.2 (by omega) (by omega) (by omega) (by omega) (by omega) (by omega) cb.1 cb.2) ⟨by omega, by omega⟩ ⟨by omega, by omega⟩ (by omega) (by omega) hc)
theorem exteriorUpM (l h s n a b c e : Int) (hk : chk l h s = 0) (hle : l ≤ h) (n0 : ¬ clampI n < 0)
    (hc : (e = 0 ∧ a = nL (h + magA s) (h + clampI n * magA s) ∧ b = nH (h + magA s) (h + clampI n * magA s) ∧ c = nS (h + magA s) (h + clampI n * magA s) (magA s) (decide (s < 0)) ∧ chk a b c = 0) ∨
      (e = 4 ∧ a = 0 ∧ b = 0 ∧ c = 0 ∧ chk (nL (h + magA s) (h + clampI n * magA s)) (nH (h + magA s) (h + clampI n * magA s)) (nS (h + magA s) (h + clampI n * magA s) (magA s) (decide (s < 0))) = 4)) :
    Ret4 38 l h s n a b c e := by
  obtain ⟨b1, b2, b3, b4, b5, b6, b7, b8⟩ := chk_bounds hk
  have cb := clampI_bd n
  have pb := prod_bdM (clampI n) (magA s) cb.1 cb.2 b7 b8
  rcases hc with ⟨rfl, rfl, rfl, rfl, hc⟩ | ⟨rfl, rfl, rfl, rfl, hc⟩
  · exact wrapExterior l h s n _ _ _ _ (Lib.hid fun b0 o w hw => moved_Exterior b0 o _ l h s _ _ _ _ w hk hle hw (fun w' hw' => xtCloP l h _ (clampI n) _ b0 o w' hw' pb.1 pb.2 (by omega) (by omega) (by omega) (by omega) (by omega) (by omega) cb.1 cb.2 n0) ⟨by omega, by omega⟩ ⟨by omega, by omega⟩ (by omega) (by omega) hc)
  · exact wrapExterior l h s n _ _ _ _ (Lib.hid fun b0 o w hw => movedBad_Exterior b0 o _ l h s _ _ _ _ w hk hle hw (fun w' hw' => xtCloP l h _ (clampI n) _ b0 o w' hw' pb.1 pb.2 (by omega) (by omega) (by omega) (by omega) (by omega) (by omega) cb.1 cb.2 n0) ⟨by omega, by omega⟩ ⟨by omega, by omega⟩ (by omega) (by omega) hc)
theorem intUpM (l h s n : Int) (hk : chk l h s = 0) (hle : l ≤ h) (n0 : 0 < n) (hn : ¬ siz l h s < n) : Ret4 36 l h s n (nL (h - (n - 1) * magA s) h) (nH (h - (n - 1) * magA s) h) (nS (h - (n - 1) * magA s) h (magA s) (decide (s < 0))) 0 := by
  have zb := siz_bd hk
  obtain ⟨st, z1, m1, _⟩ := steps_a hk hle
  obtain ⟨b1, b2, b3, b4, b5, b6, b7, b8⟩ := chk_bounds hk
  have p1 : 0 ≤ (n - 1) * magA s := Int.mul_nonneg (by omega) (by omega)
  have p2 : (n - 1) * magA s ≤ (siz l h s - 1) * magA s := mulr_a _ _ _ (by omega) (by omega)
  have hr : chk (nL (h - (n - 1) * magA s) h) (nH (h - (n - 1) * magA s) h) (nS (h - (n - 1) * magA s) h (magA s) (decide (s < 0))) = 0 := by
    rw [chk_nrm _ _ _ _ (by omega) m1 (by rw [show h - (h - (n - 1) * magA s) = (n - 1) * magA s by omega]; exact Int.mul_emod_left _ _), if_neg (by omega)]
  exact interiorMoved l h s n _ _ _ _ hk (by omega) (by omega) (Lib.hid fun b0 o w hc => moved_Interior b0 o _ l h s _ _ _ _ w hk hle hc (fun w' hw' => inCloP l h _ n _ b0 o w' hw' (by omega) (by omega) (by omega) (by omega) (by omega) (by omega) (by omega) (by omega) (by omega)) ⟨by omega, by omega⟩ ⟨by omega, by omega⟩ (by omega) (by omega) hr)
theorem intZeroM (l h s : Int) (hk : chk l h s = 0) : Ret4 36 l h s 0 1 0 1 0 := by
  have zb := siz_bd hk
  by_cases hle : l ≤ h
  · obtain ⟨st, z1, m1, _⟩ := steps_a hk hle
    obtain ⟨b1, b2, b3, b4, b5, b6, b7, b8⟩ := chk_bounds hk
    have e1 : (0 - 1) * magA s = -magA s := by rw [show (0 : Int) - 1 = -1 by omega, Int.neg_mul, Int.one_mul]
    have hr : chk (nL (h - (0 - 1) * magA s) h) (nH (h - (0 - 1) * magA s) h) (nS (h - (0 - 1) * magA s) h (magA s) (decide (s < 0))) = 0 := by
      rw [e1]
      have c : h < h - -magA s := by omega
      unfold nL nH nS; rw [if_pos c, if_pos c, if_pos c]; decide
    have r := interiorMoved l h s 0 _ _ _ _ hk (by omega) (by omega) (Lib.hid (show MovedTo _ l h s 0 _ _ _ _ from fun b0 o w hc => moved_Interior b0 o _ l h s _ _ _ _ w hk hle hc (fun w' hw' => inCloP l h _ 0 _ b0 o w' hw' (by omega) (by omega) (by omega) (by omega) (by omega) (by omega) (by omega) (by omega) (by omega)) ⟨by omega, by omega⟩ ⟨by omega, by omega⟩ (by omega) (by omega) hr))
    have c : h < h - (0 - 1) * magA s := by omega
    rwa [show nL (h - (0 - 1) * magA s) h = 1 from if_pos c, show nH (h - (0 - 1) * magA s) h = 0 from if_pos c, show nS (h - (0 - 1) * magA s) h (magA s) (decide (s < 0)) = 1 from if_pos c] at r
  · have z0 := empty_a hk hle
    obtain ⟨rfl, rfl, rfl⟩ := le_of_chk hk hle
    exact interiorMoved 1 0 1 0 _ _ _ _ hk (by omega) (by omega) (Lib.hid (movedTo_empty _ _))
end Go.Proofs.Ytdifilndpilboaa
