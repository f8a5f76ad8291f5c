/-
  Interior and Count, By: the code and the reference return the same, for all ranges and numbers.
-/
import Derived.Test.YtdifilndpilboaaRefJ
import Derived.Test.YtdifilndpilboaaRefK
import Derived.Test.YtdifilndpilboaaRefL
import Derived.Lib.Hide
namespace Go.Proofs.Ytdifilndpilboaa
open Go.RowKit

/-- two changes return the same -/
def Pair (fa fb : FuncId) (l h s n : Int) : Prop := ∃ a b c e : Int, Ret4 fa l h s n a b c e ∧ Ret4 fb l h s n a b c e

/-- a right range that is not empty, as steps -/
theorem steps {l h s : Int} (hk : chk l h s = 0) (hle : l ≤ h) : h - l = (siz l h s - 1) * magA s ∧ 1 ≤ siz l h s ∧ 1 ≤ magA s ∧ s ≠ 0 := by
  have e := siz_ok hk hle
  rcases chk_zero hk with ⟨rfl, rfl, rfl⟩ | ⟨a1, a2, a3, a4, a5, a6, a7, a8, a9, _⟩
  · omega
  · have q := quo_bd (h - l) (magA s) (by omega) a7
    refine ⟨?_, by omega, a7, a4⟩
    have := ediv_mul (h - l) (magA s)
    rw [e, show (h - l) / magA s + 1 - 1 = (h - l) / magA s by omega, this]; omega

theorem mul_le_right (a b m : Int) (h : a ≤ b) (hm : 0 ≤ m) : a * m ≤ b * m := Int.mul_le_mul_of_nonneg_right h hm

theorem empty_of {l h s : Int} (_hk : chk l h s = 0) (hle : ¬ l ≤ h) : siz l h s = 0 := if_neg (fun c => hle c.2)

theorem pairInterior (l h s n : Int) (hl : I64 l) (hh : I64 h) (hs : I64 s) (hn : I64 n) : Pair 36 37 l h s n := by
  by_cases hk : chk l h s = 0
  · have zb := siz_bd hk
    by_cases ho : siz l h s < n ∨ n < -siz l h s
    · exact ⟨_, _, _, _, interiorCount l h s n hk ho, refInteriorOver l h s n hk ho⟩
    · by_cases hle : l ≤ h
      · obtain ⟨st, z1, m1, _⟩ := steps hk hle
        obtain ⟨b1, b2, b3, b4, b5, b6, b7, b8⟩ := chk_bounds hk
        by_cases n0 : n < 0
        · have p1 : 0 ≤ (-n - 1) * magA s := Int.mul_nonneg (by omega) (by omega)
          have p2 : (-n - 1) * magA s ≤ (siz l h s - 1) * magA s := mul_le_right _ _ _ (by omega) (by omega)
          have hr : chk (nL l (l + (-n - 1) * magA s)) (nH l (l + (-n - 1) * magA s)) (nS l (l + (-n - 1) * magA s) (magA s) (decide (s < 0))) = 0 := by
            rw [chk_nrm _ _ _ _ (by omega) m1 (by rw [show l + (-n - 1) * magA s - l = (-n - 1) * magA s by omega]; exact Int.mul_emod_left _ _), if_neg (by omega)]
          refine ⟨_, _, _, _, interiorMoved l h s n _ _ _ _ hk (by omega) (by omega) (Lib.hid ?_), refInteriorDown l h s n hk n0 (by omega) p1 (by omega)⟩
          exact fun b0 o w hc => moved_Interior b0 o _ l h s _ _ _ _ w hk hle hc (fun w' hw' => inCloN l h _ n _ b0 o w' hw' (by omega) (by omega) (by omega) (by omega) (by omega) (by omega) n0 (by omega) (by omega)) ⟨by omega, by omega⟩ ⟨by omega, by omega⟩ (by omega) (by omega) hr
        · by_cases n1 : n = 0
          · subst n1
            have e1 : (0 - 1) * magA s = -magA s := by rw [show (0 : Int) - 1 = -1 by omega, Int.neg_mul, Int.one_mul]
            have hr : chk (nL (h - (0 - 1) * magA s) h) (nH (h - (0 - 1) * magA s) h) (nS (h - (0 - 1) * magA s) h (magA s) (decide (s < 0))) = 0 := by
              rw [e1]
              have c : h < h - -magA s := by omega
              unfold nL nH nS; rw [if_pos c, if_pos c, if_pos c]; decide
            have r := interiorMoved l h s 0 _ _ _ _ hk (by omega) (by omega) (Lib.hid (show MovedTo _ l h s 0 _ _ _ _ from fun b0 o w hc => moved_Interior b0 o _ l h s _ _ _ _ w hk hle hc (fun w' hw' => inCloP l h _ 0 _ b0 o w' hw' (by omega) (by omega) (by omega) (by omega) (by omega) (by omega) (by omega) (by omega) (by omega)) ⟨by omega, by omega⟩ ⟨by omega, by omega⟩ (by omega) (by omega) hr))
            have c : h < h - (0 - 1) * magA s := by omega
            rw [show nL (h - (0 - 1) * magA s) h = 1 from if_pos c, show nH (h - (0 - 1) * magA s) h = 0 from if_pos c, show nS (h - (0 - 1) * magA s) h (magA s) (decide (s < 0)) = 1 from if_pos c] at r
            exact ⟨_, _, _, _, r, refInteriorZero l h s hk⟩
          · have p1 : 0 ≤ (n - 1) * magA s := Int.mul_nonneg (by omega) (by omega)
            have p2 : (n - 1) * magA s ≤ (siz l h s - 1) * magA s := mul_le_right _ _ _ (by omega) (by omega)
            have hr : chk (nL (h - (n - 1) * magA s) h) (nH (h - (n - 1) * magA s) h) (nS (h - (n - 1) * magA s) h (magA s) (decide (s < 0))) = 0 := by
              rw [chk_nrm _ _ _ _ (by omega) m1 (by rw [show h - (h - (n - 1) * magA s) = (n - 1) * magA s by omega]; exact Int.mul_emod_left _ _), if_neg (by omega)]
            refine ⟨_, _, _, _, interiorMoved l h s n _ _ _ _ hk (by omega) (by omega) (Lib.hid ?_), refInteriorUp l h s n hk (by omega) (by omega) p1 (by omega)⟩
            exact fun b0 o w hc => moved_Interior b0 o _ l h s _ _ _ _ w hk hle hc (fun w' hw' => inCloP l h _ n _ b0 o w' hw' (by omega) (by omega) (by omega) (by omega) (by omega) (by omega) n0 (by omega) (by omega)) ⟨by omega, by omega⟩ ⟨by omega, by omega⟩ (by omega) (by omega) hr
      · have z0 := empty_of hk hle
        obtain ⟨rfl, rfl, rfl⟩ := le_of_chk hk hle
        have n1 : n = 0 := by omega
        subst n1
        exact ⟨_, _, _, _, interiorMoved 1 0 1 0 _ _ _ _ hk (by omega) (by omega) (Lib.hid (movedTo_empty _ _)), refInteriorZero 1 0 1 hk⟩
  · exact ⟨_, _, _, _, interiorChk l h s n hl hh hs hk, refInteriorChk l h s n hl hh hs hk⟩
end Go.Proofs.Ytdifilndpilboaa
