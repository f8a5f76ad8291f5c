/-
  Part 17: PairC.
-/
import Derived.Test.YtabgphlpdoockaaDr9
import Derived.Test.YtabgphlpdoockaaDr15
import Derived.Test.YtabgphlpdoockaaDr16
import Derived.Lib.Hide
namespace Go.Proofs.Ytabgphlpdoockaa
open Go.RowKit
theorem clampI_near (n : Int) (h1 : -2000000 ≤ n) (h2 : n ≤ 2000000) : clampI n = n := by unfold clampI; rw [if_neg (by omega), if_neg (by omega)]
theorem clampI_pos (n : Int) (h : 2000000 < n) : clampI n = 2000001 := by unfold clampI; rw [if_neg (by omega)]; split <;> omega
theorem clampI_neg (n : Int) (h : n < -2000000) : clampI n = -2000001 := by unfold clampI; split; rfl; rw [if_neg (by omega)]; omega
theorem sub_mod_step (a k m : Int) (h : a % m = 0) : (a + k * m) % m = 0 := by rw [Int.add_mul_emod_self_right]; exact h
theorem pairTranslate (l h s n : Int) (hl : I64 l) (hh : I64 h) (hs : I64 s) (_hn : I64 n) : Pair 35 36 l h s n := by
  by_cases hk : chk l h s = 0
  · by_cases hle : l ≤ h
    · obtain ⟨st, z1, m1, s0⟩ := steps hk hle
      obtain ⟨b1, b2, b3, b4, b5, b6, b7, b8⟩ := chk_bounds hk
      have cb := clampI_bd n
      have hm : (h + clampI n - (l + clampI n)) % magA s = 0 := by rw [show h + clampI n - (l + clampI n) = h - l by omega, st]; exact Int.mul_emod_left _ _
      have hc := chk_nrm (l + clampI n) (h + clampI n) (magA s) (decide (s < 0)) (by omega) m1 hm
      by_cases out : l + clampI n < -1000000 ∨ 1000000 < h + clampI n
      · rw [if_pos out] at hc
        refine ⟨_, _, _, _, wrapTranslate l h s n _ _ _ _ (Lib.hid fun b0 o w hw => movedBad_Translate b0 o _ l h s _ _ _ _ w hk hle hw (fun w' hw' => trClo l h _ (clampI n) _ b0 o w' hw' (by omega) (by omega) (by omega) (by omega) (by omega) (by omega)) ⟨by omega, by omega⟩ ⟨by omega, by omega⟩ (by omega) (by omega) hc), ?_⟩
        by_cases near : -2000000 ≤ n ∧ n ≤ 2000000
        · rw [clampI_near n near.1 near.2] at out
          exact refTranslateLim l h s n _ _ _ _ hk hle near.1 near.2 (Lib.hid fun w => lim_bad _ _ _ _ w (by omega) out)
        · exact refTranslateFar l h s n hk hle near
      · rw [if_neg out] at hc
        have near : -2000000 ≤ n ∧ n ≤ 2000000 := by
          by_cases c1 : 2000000 < n
          · rw [clampI_pos n c1] at out; omega
          · by_cases c2 : n < -2000000
            · rw [clampI_neg n c2] at out; omega
            · omega
        have r := wrapTranslate l h s n _ _ _ _ (Lib.hid (show MovedTo _ l h s (clampI n) _ _ _ _ from fun b0 o w hw => moved_Translate b0 o _ l h s _ _ _ _ w hk hle hw (fun w' hw' => trClo l h _ (clampI n) _ b0 o w' hw' (by omega) (by omega) (by omega) (by omega) (by omega) (by omega)) ⟨by omega, by omega⟩ ⟨by omega, by omega⟩ (by omega) (by omega) hc))
        rw [clampI_near n near.1 near.2] at r out
        exact ⟨_, _, _, _, r, refTranslateLim l h s n _ _ _ _ hk hle near.1 near.2 (Lib.hid fun w => lim_good _ _ _ _ w (fun _ => by omega) (by omega) (by omega))⟩
    · obtain ⟨rfl, rfl, rfl⟩ := le_of_chk hk hle
      exact ⟨_, _, _, _, wrapTranslate 1 0 1 n _ _ _ _ (Lib.hid (movedTo_empty _ _)), refTranslateEmpty n⟩
  · exact ⟨_, _, _, _, wrapTranslate l h s n _ _ _ _ (Lib.hid (movedTo_chk _ l h s _ hl hh hs hk)), refTranslateChk l h s n hl hh hs hk⟩
/-- the product with a clamped number -/
theorem prod_bd (c m : Int) (h1 : -2000001 ≤ c) (h2 : c ≤ 2000001) (m0 : 1 ≤ m) (m1 : m ≤ 2000000) : -5000000000000 ≤ c * m ∧ c * m ≤ 5000000000000 := by
  have e1 : -2000001 * m ≤ c * m := Int.mul_le_mul_of_nonneg_right h1 (by omega)
  have e2 : c * m ≤ 2000001 * m := Int.mul_le_mul_of_nonneg_right h2 (by omega)
  omega
theorem chk_over (l h st : Int) (dn : Bool) (c : h < l) : chk (nL l h) (nH l h) (nS l h st dn) = 0 := by unfold nL nH nS; rw [if_pos c, if_pos c, if_pos c]; decide
theorem nrm_over (l h st : Int) (dn : Bool) (c : h < l) : nL l h = 1 ∧ nH l h = 0 ∧ nS l h st dn = 1 := ⟨if_pos c, if_pos c, if_pos c⟩
/-- Expand of the code: the ends move apart -/
theorem expandOk (l h s n : Int) (hk : chk l h s = 0) (hle : l ≤ h) (hc : chk (nL (l - clampI n * magA s) (h + clampI n * magA s)) (nH (l - clampI n * magA s) (h + clampI n * magA s)) (nS (l - clampI n * magA s) (h + clampI n * magA s) (magA s) (decide (s < 0))) = 0) :
    Ret4 37 l h s n (nL (l - clampI n * magA s) (h + clampI n * magA s)) (nH (l - clampI n * magA s) (h + clampI n * magA s)) (nS (l - clampI n * magA s) (h + clampI n * magA s) (magA s) (decide (s < 0))) 0 := by
  obtain ⟨b1, b2, b3, b4, b5, b6, b7, b8⟩ := chk_bounds hk
  have cb := clampI_bd n
  have pb := prod_bd (clampI n) (magA s) cb.1 cb.2 b7 b8
  exact wrapExpand l h s n _ _ _ _ (Lib.hid fun b0 o w hw => moved_Expand b0 o _ l h s _ _ _ _ w hk hle hw (fun w' hw' => exClo l h _ (clampI n) _ b0 o w' hw' pb.1 pb.2 (by omega) (by omega) (by omega) (by omega) (by omega) (by omega) cb.1 cb.2) ⟨by omega, by omega⟩ ⟨by omega, by omega⟩ (by omega) (by omega) hc)
theorem expandBad (l h s n : Int) (hk : chk l h s = 0) (hle : l ≤ h) (hc : chk (nL (l - clampI n * magA s) (h + clampI n * magA s)) (nH (l - clampI n * magA s) (h + clampI n * magA s)) (nS (l - clampI n * magA s) (h + clampI n * magA s) (magA s) (decide (s < 0))) = 4) :
    Ret4 37 l h s n 0 0 0 4 := by
  obtain ⟨b1, b2, b3, b4, b5, b6, b7, b8⟩ := chk_bounds hk
  have cb := clampI_bd n
  have pb := prod_bd (clampI n) (magA s) cb.1 cb.2 b7 b8
  exact wrapExpand l h s n _ _ _ _ (Lib.hid fun b0 o w hw => movedBad_Expand b0 o _ l h s _ _ _ _ w hk hle hw (fun w' hw' => exClo l h _ (clampI n) _ b0 o w' hw' pb.1 pb.2 (by omega) (by omega) (by omega) (by omega) (by omega) (by omega) cb.1 cb.2) ⟨by omega, by omega⟩ ⟨by omega, by omega⟩ (by omega) (by omega) hc)
theorem pairExpand (l h s n : Int) (hl : I64 l) (hh : I64 h) (hs : I64 s) (_hn : I64 n) : Pair 37 38 l h s n := by
  by_cases hk : chk l h s = 0
  · by_cases hle : l ≤ h
    · obtain ⟨st, z1, m1, s0⟩ := steps hk hle
      obtain ⟨b1, b2, b3, b4, b5, b6, b7, b8⟩ := chk_bounds hk
      have zb := siz_bd hk
      have cb := clampI_bd n
      have pb := prod_bd (clampI n) (magA s) cb.1 cb.2 b7 b8
      by_cases sm : n < 0 ∧ n ≤ -((siz l h s + 1) / 2)
      · have c2 : siz l h s - 1 < -(clampI n + clampI n) := by
          by_cases c : n < -2000000
          · rw [clampI_neg n c]; omega
          · rw [clampI_near n (by omega) (by omega)]; omega
        have c3 : (siz l h s - 1 + 1) * magA s ≤ (-(clampI n + clampI n)) * magA s := mul_le_right _ _ _ (by omega) (by omega)
        rw [Int.add_mul, Int.one_mul, Int.neg_mul, Int.add_mul] at c3
        have ov : h + clampI n * magA s < l - clampI n * magA s := by omega
        have r := expandOk l h s n hk hle (chk_over _ _ _ _ ov)
        obtain ⟨e1, e2, e3⟩ := nrm_over _ _ (magA s) (decide (s < 0)) ov
        rw [e1, e2, e3] at r
        exact ⟨_, _, _, _, r, refExpandSmall l h s n hk hle sm.1 sm.2⟩
      · have le : l - clampI n * magA s ≤ h + clampI n * magA s := by
          by_cases n0 : 0 ≤ clampI n
          · have := Int.mul_nonneg n0 (show 0 ≤ magA s by omega); omega
          · have c0 : n < 0 := by
              by_cases c : 2000000 < n
              · rw [clampI_pos n c] at n0; omega
              · by_cases c' : n < -2000000
                · omega
                · rw [clampI_near n (by omega) (by omega)] at n0; omega
            have nr : clampI n = n := clampI_near n (by omega) (by omega)
            have c2 : (-(clampI n + clampI n)) * magA s ≤ (siz l h s - 1) * magA s := mul_le_right _ _ _ (by rw [nr]; omega) (by omega)
            rw [Int.neg_mul, Int.add_mul] at c2
            omega
        have hm : (h + clampI n * magA s - (l - clampI n * magA s)) % magA s = 0 := by
          rw [show h + clampI n * magA s - (l - clampI n * magA s) = (h - l) + (clampI n + clampI n) * magA s by rw [Int.add_mul]; omega, st]
          exact sub_mod_step _ _ _ (Int.mul_emod_left _ _)
        have hc := chk_nrm _ _ (magA s) (decide (s < 0)) le m1 hm
        by_cases far : -2000000 ≤ n ∧ n ≤ 2000000
        · rw [clampI_near n far.1 far.2] at le hm hc pb
          have cn := clampI_near n far.1 far.2
          by_cases out : l - n * magA s < -1000000 ∨ 1000000 < h + n * magA s
          · rw [if_pos out] at hc
            have r := expandBad l h s n hk hle (by rw [cn]; exact hc)
            have lm : LimTo (l - n * magA s) (h + n * magA s) (magA s) (decide (s < 0)) 0 0 0 4 := fun w => lim_bad _ _ _ _ w le out
            refine ⟨_, _, _, _, r, ?_⟩
            by_cases n0 : 0 ≤ n
            · exact refExpandUp l h s n _ _ _ _ hk hle n0 far.2 pb.1 pb.2 lm
            · exact refExpandDown l h s n _ _ _ _ hk hle (by omega) far.1 (by omega) pb.1 pb.2 lm
          · rw [if_neg out] at hc
            have r := expandOk l h s n hk hle (by rw [cn]; exact hc)
            rw [cn] at r
            have lm : LimTo (l - n * magA s) (h + n * magA s) (magA s) (decide (s < 0)) _ _ _ _ := fun w => lim_good _ _ _ _ w (fun _ => by omega) (by omega) (by omega)
            refine ⟨_, _, _, _, r, ?_⟩
            by_cases n0 : 0 ≤ n
            · exact refExpandUp l h s n _ _ _ _ hk hle n0 far.2 pb.1 pb.2 lm
            · exact refExpandDown l h s n _ _ _ _ hk hle (by omega) far.1 (by omega) pb.1 pb.2 lm
        · have c1 : 2000000 < n := by omega
          have cn := clampI_pos n c1
          have c3 : 2000001 * 1 ≤ 2000001 * magA s := Int.mul_le_mul_of_nonneg_left m1 (by omega)
          rw [if_pos (by rw [cn]; omega)] at hc
          exact ⟨_, _, _, _, expandBad l h s n hk hle hc, refExpandFar l h s n hk hle (by omega) far⟩
    · obtain ⟨rfl, rfl, rfl⟩ := le_of_chk hk hle
      exact ⟨_, _, _, _, wrapExpand 1 0 1 n _ _ _ _ (Lib.hid (movedTo_empty _ _)), refExpandEmpty n⟩
  · exact ⟨_, _, _, _, wrapExpand l h s n _ _ _ _ (Lib.hid (movedTo_chk _ l h s _ hl hh hs hk)), refExpandChk l h s n hl hh hs hk⟩
/-- Exterior of the code, above -/
theorem exteriorUp (l h s n a b c e : Int) (hk : chk l h s = 0) (hle : l ≤ h) (n0 : ¬ clampI n < 0)
    (hc : (e = 0 ∧ a = nL (h + magA s) (h + clampI n * magA s) ∧ b = nH (h + magA s) (h + clampI n * magA s) ∧ c = nS (h + magA s) (h + clampI n * magA s) (magA s) (decide (s < 0)) ∧ chk a b c = 0) ∨
      (e = 4 ∧ a = 0 ∧ b = 0 ∧ c = 0 ∧ chk (nL (h + magA s) (h + clampI n * magA s)) (nH (h + magA s) (h + clampI n * magA s)) (nS (h + magA s) (h + clampI n * magA s) (magA s) (decide (s < 0))) = 4)) :
    Ret4 41 l h s n a b c e := by
  obtain ⟨b1, b2, b3, b4, b5, b6, b7, b8⟩ := chk_bounds hk
  have cb := clampI_bd n
  have pb := prod_bd (clampI n) (magA s) cb.1 cb.2 b7 b8
  rcases hc with ⟨rfl, rfl, rfl, rfl, hc⟩ | ⟨rfl, rfl, rfl, rfl, hc⟩
  · exact wrapExterior l h s n _ _ _ _ (Lib.hid fun b0 o w hw => moved_Exterior b0 o _ l h s _ _ _ _ w hk hle hw (fun w' hw' => xtCloP l h _ (clampI n) _ b0 o w' hw' pb.1 pb.2 (by omega) (by omega) (by omega) (by omega) (by omega) (by omega) cb.1 cb.2 n0) ⟨by omega, by omega⟩ ⟨by omega, by omega⟩ (by omega) (by omega) hc)
  · exact wrapExterior l h s n _ _ _ _ (Lib.hid fun b0 o w hw => movedBad_Exterior b0 o _ l h s _ _ _ _ w hk hle hw (fun w' hw' => xtCloP l h _ (clampI n) _ b0 o w' hw' pb.1 pb.2 (by omega) (by omega) (by omega) (by omega) (by omega) (by omega) cb.1 cb.2 n0) ⟨by omega, by omega⟩ ⟨by omega, by omega⟩ (by omega) (by omega) hc)
theorem exteriorDown (l h s n a b c e : Int) (hk : chk l h s = 0) (hle : l ≤ h) (n0 : clampI n < 0)
    (hc : (e = 0 ∧ a = nL (l + clampI n * magA s) (l - magA s) ∧ b = nH (l + clampI n * magA s) (l - magA s) ∧ c = nS (l + clampI n * magA s) (l - magA s) (magA s) (decide (s < 0)) ∧ chk a b c = 0) ∨
      (e = 4 ∧ a = 0 ∧ b = 0 ∧ c = 0 ∧ chk (nL (l + clampI n * magA s) (l - magA s)) (nH (l + clampI n * magA s) (l - magA s)) (nS (l + clampI n * magA s) (l - magA s) (magA s) (decide (s < 0))) = 4)) :
    Ret4 41 l h s n a b c e := by
  obtain ⟨b1, b2, b3, b4, b5, b6, b7, b8⟩ := chk_bounds hk
  have cb := clampI_bd n
  have pb := prod_bd (clampI n) (magA s) cb.1 cb.2 b7 b8
  rcases hc with ⟨rfl, rfl, rfl, rfl, hc⟩ | ⟨rfl, rfl, rfl, rfl, hc⟩
  · exact wrapExterior l h s n _ _ _ _ (Lib.hid fun b0 o w hw => moved_Exterior b0 o _ l h s _ _ _ _ w hk hle hw (fun w' hw' => xtCloN l h _ (clampI n) _ b0 o w' hw' pb.1 pb.2 (by omega) (by omega) (by omega) (by omega) (by omega) (by omega) cb.1 cb.2 n0) ⟨by omega, by omega⟩ ⟨by omega, by omega⟩ (by omega) (by omega) hc)
  · exact wrapExterior l h s n _ _ _ _ (Lib.hid fun b0 o w hw => movedBad_Exterior b0 o _ l h s _ _ _ _ w hk hle hw (fun w' hw' => xtCloN l h _ (clampI n) _ b0 o w' hw' pb.1 pb.2 (by omega) (by omega) (by omega) (by omega) (by omega) (by omega) cb.1 cb.2 n0) ⟨by omega, by omega⟩ ⟨by omega, by omega⟩ (by omega) (by omega) hc)
theorem pairExterior (l h s n : Int) (hl : I64 l) (hh : I64 h) (hs : I64 s) (hn : I64 n) : Pair 41 42 l h s n := by
  by_cases hk : chk l h s = 0
  · by_cases hle : l ≤ h
    · obtain ⟨st, z1, m1, s0⟩ := steps hk hle
      obtain ⟨b1, b2, b3, b4, b5, b6, b7, b8⟩ := chk_bounds hk
      have cb := clampI_bd n
      have pb := prod_bd (clampI n) (magA s) cb.1 cb.2 b7 b8
      by_cases nz : n = 0
      · subst nz
        have cn : clampI 0 = 0 := by decide
        have ov : h + clampI 0 * magA s < h + magA s := by rw [cn, Int.zero_mul]; omega
        obtain ⟨e1, e2, e3⟩ := nrm_over _ _ (magA s) (decide (s < 0)) ov
        exact ⟨1, 0, 1, 0, exteriorUp l h s 0 _ _ _ _ hk hle (by rw [cn]; omega) (Or.inl ⟨rfl, e1.symm, e2.symm, e3.symm, by decide⟩), refExteriorZero l h s hk hle⟩
      · by_cases np : 0 < n
        · have c1 : 1 ≤ clampI n := by
            by_cases c : 2000000 < n
            · rw [clampI_pos n c]; omega
            · rw [clampI_near n (by omega) (by omega)]; omega
          have lem : 1 * magA s ≤ clampI n * magA s := mul_le_right _ _ _ c1 (by omega)
          rw [Int.one_mul] at lem
          have hm : (h + clampI n * magA s - (h + magA s)) % magA s = 0 := by
            rw [show h + clampI n * magA s - (h + magA s) = (clampI n - 1) * magA s by rw [Int.sub_mul, Int.one_mul]; omega]
            exact Int.mul_emod_left _ _
          have hc := chk_nrm (h + magA s) (h + clampI n * magA s) (magA s) (decide (s < 0)) (by omega) m1 hm
          by_cases far : n ≤ 2000000
          · have cn := clampI_near n (by omega) far
            by_cases out : h + magA s < -1000000 ∨ 1000000 < h + n * magA s
            · rw [if_pos (by rw [cn]; exact out)] at hc
              refine ⟨0, 0, 0, 4, exteriorUp l h s n _ _ _ _ hk hle (by omega) (Or.inr ⟨rfl, rfl, rfl, rfl, hc⟩), ?_⟩
              rw [cn] at lem pb
              exact refExteriorUp l h s n _ _ _ _ hk hle np far (by omega) pb.2 (Lib.hid fun w => lim_bad _ _ _ _ w (by omega) out)
            · rw [if_neg (by rw [cn]; exact out)] at hc
              have r := exteriorUp l h s n _ _ _ _ hk hle (by omega) (Or.inl ⟨rfl, rfl, rfl, rfl, hc⟩)
              rw [cn] at lem pb r
              exact ⟨_, _, _, _, r, refExteriorUp l h s n _ _ _ _ hk hle np far (by omega) pb.2 (Lib.hid fun w => lim_good _ _ _ _ w (fun _ => by omega) (by omega) (by omega))⟩
          · have cn := clampI_pos n (by omega)
            have c3 : 2000001 * 1 ≤ 2000001 * magA s := Int.mul_le_mul_of_nonneg_left m1 (by omega)
            rw [if_pos (by rw [cn]; omega)] at hc
            exact ⟨0, 0, 0, 4, exteriorUp l h s n _ _ _ _ hk hle (by omega) (Or.inr ⟨rfl, rfl, rfl, rfl, hc⟩), refExteriorFar l h s n hk hle (show ¬ _ by omega)⟩
        · have c1 : clampI n ≤ -1 := by
            by_cases c : n < -2000000
            · rw [clampI_neg n c]; omega
            · rw [clampI_near n (by omega) (by omega)]; omega
          have lem : clampI n * magA s ≤ -1 * magA s := mul_le_right _ _ _ c1 (by omega)
          rw [Int.neg_mul, Int.one_mul] at lem
          have hm : (l - magA s - (l + clampI n * magA s)) % magA s = 0 := by
            rw [show l - magA s - (l + clampI n * magA s) = (-clampI n - 1) * magA s by rw [Int.sub_mul, Int.one_mul, Int.neg_mul]; omega]
            exact Int.mul_emod_left _ _
          have hc := chk_nrm (l + clampI n * magA s) (l - magA s) (magA s) (decide (s < 0)) (by omega) m1 hm
          by_cases far : -2000000 ≤ n
          · have cn := clampI_near n far (by omega)
            by_cases out : l + n * magA s < -1000000 ∨ 1000000 < l - magA s
            · rw [if_pos (by rw [cn]; exact out)] at hc
              refine ⟨0, 0, 0, 4, exteriorDown l h s n _ _ _ _ hk hle (by omega) (Or.inr ⟨rfl, rfl, rfl, rfl, hc⟩), ?_⟩
              rw [cn] at lem pb
              exact refExteriorDown l h s n _ _ _ _ hk hle (by omega) far (by omega) pb.1 (Lib.hid fun w => lim_bad _ _ _ _ w (by omega) out)
            · rw [if_neg (by rw [cn]; exact out)] at hc
              have r := exteriorDown l h s n _ _ _ _ hk hle (by omega) (Or.inl ⟨rfl, rfl, rfl, rfl, hc⟩)
              rw [cn] at lem pb r
              exact ⟨_, _, _, _, r, refExteriorDown l h s n _ _ _ _ hk hle (by omega) far (by omega) pb.1 (Lib.hid fun w => lim_good _ _ _ _ w (fun _ => by omega) (by omega) (by omega))⟩
          · have cn := clampI_neg n (by omega)
            have c3 : 2000001 * 1 ≤ 2000001 * magA s := Int.mul_le_mul_of_nonneg_left m1 (by omega)
            have c4 : -2000001 * magA s = -(2000001 * magA s) := Int.neg_mul _ _
            rw [if_pos (by rw [cn, c4]; omega)] at hc
            exact ⟨0, 0, 0, 4, exteriorDown l h s n _ _ _ _ hk hle (by omega) (Or.inr ⟨rfl, rfl, rfl, rfl, hc⟩), refExteriorFar l h s n hk hle (show ¬ _ by omega)⟩
    · obtain ⟨rfl, rfl, rfl⟩ := le_of_chk hk hle
      exact ⟨_, _, _, _, wrapExterior 1 0 1 n _ _ _ _ (Lib.hid (movedTo_empty _ _)), refExteriorEmpty n⟩
  · exact ⟨_, _, _, _, wrapExterior l h s n _ _ _ _ (Lib.hid (movedTo_chk _ l h s _ hl hh hs hk)), refExteriorChk l h s n hl hh hs hk⟩
end Go.Proofs.Ytabgphlpdoockaa
