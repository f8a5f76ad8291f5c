/-
  Count and By: the code and the reference return the same, for all ranges and numbers.
-/
import Derived.Test.YtdifilndpilboaaPairA
import Derived.Lib.Hide
namespace Go.Proofs.Ytdifilndpilboaa
open Go.RowKit

theorem intDown (l h s n : Int) (hk : chk l h s = 0) (hle : l ≤ h) (n0 : n < 0) (hn : ¬ n < -siz l h s) : Ret4 36 l h s n (nL l (l + (-n - 1) * magA s)) (nH l (l + (-n - 1) * magA s)) (nS l (l + (-n - 1) * magA s) (magA s) (decide (s < 0))) 0 := by
  have zb := siz_bd hk
  obtain ⟨st, z1, m1, _⟩ := steps hk hle
  obtain ⟨b1, b2, b3, b4, b5, b6, b7, b8⟩ := chk_bounds hk
  have p1 : 0 ≤ (-n - 1) * magA s := Int.mul_nonneg (by omega) (by omega)
  have p2 : (-n - 1) * magA s ≤ (siz l h s - 1) * magA s := mul_le_right _ _ _ (by omega) (by omega)
  have hr : chk (nL l (l + (-n - 1) * magA s)) (nH l (l + (-n - 1) * magA s)) (nS l (l + (-n - 1) * magA s) (magA s) (decide (s < 0))) = 0 := by
    rw [chk_nrm _ _ _ _ (by omega) m1 (by rw [show l + (-n - 1) * magA s - l = (-n - 1) * magA s by omega]; exact Int.mul_emod_left _ _), if_neg (by omega)]
  exact interiorMoved l h s n _ _ _ _ hk (by omega) (by omega) (Lib.hid fun b0 o w hc => moved_Interior b0 o _ l h s _ _ _ _ w hk hle hc (fun w' hw' => inCloN l h _ n _ b0 o w' hw' (by omega) (by omega) (by omega) (by omega) (by omega) (by omega) n0 (by omega) (by omega)) ⟨by omega, by omega⟩ ⟨by omega, by omega⟩ (by omega) (by omega) hr)

theorem intUp (l h s n : Int) (hk : chk l h s = 0) (hle : l ≤ h) (n0 : 0 < n) (hn : ¬ siz l h s < n) : Ret4 36 l h s n (nL (h - (n - 1) * magA s) h) (nH (h - (n - 1) * magA s) h) (nS (h - (n - 1) * magA s) h (magA s) (decide (s < 0))) 0 := by
  have zb := siz_bd hk
  obtain ⟨st, z1, m1, _⟩ := steps hk hle
  obtain ⟨b1, b2, b3, b4, b5, b6, b7, b8⟩ := chk_bounds hk
  have p1 : 0 ≤ (n - 1) * magA s := Int.mul_nonneg (by omega) (by omega)
  have p2 : (n - 1) * magA s ≤ (siz l h s - 1) * magA s := mul_le_right _ _ _ (by omega) (by omega)
  have hr : chk (nL (h - (n - 1) * magA s) h) (nH (h - (n - 1) * magA s) h) (nS (h - (n - 1) * magA s) h (magA s) (decide (s < 0))) = 0 := by
    rw [chk_nrm _ _ _ _ (by omega) m1 (by rw [show h - (h - (n - 1) * magA s) = (n - 1) * magA s by omega]; exact Int.mul_emod_left _ _), if_neg (by omega)]
  exact interiorMoved l h s n _ _ _ _ hk (by omega) (by omega) (Lib.hid fun b0 o w hc => moved_Interior b0 o _ l h s _ _ _ _ w hk hle hc (fun w' hw' => inCloP l h _ n _ b0 o w' hw' (by omega) (by omega) (by omega) (by omega) (by omega) (by omega) (by omega) (by omega) (by omega)) ⟨by omega, by omega⟩ ⟨by omega, by omega⟩ (by omega) (by omega) hr)

theorem intZero (l h s : Int) (hk : chk l h s = 0) : Ret4 36 l h s 0 1 0 1 0 := by
  have zb := siz_bd hk
  by_cases hle : l ≤ h
  · obtain ⟨st, z1, m1, _⟩ := steps hk hle
    obtain ⟨b1, b2, b3, b4, b5, b6, b7, b8⟩ := chk_bounds hk
    have e1 : (0 - 1) * magA s = -magA s := by rw [show (0 : Int) - 1 = -1 by omega, Int.neg_mul, Int.one_mul]
    have hr : chk (nL (h - (0 - 1) * magA s) h) (nH (h - (0 - 1) * magA s) h) (nS (h - (0 - 1) * magA s) h (magA s) (decide (s < 0))) = 0 := by
      rw [e1]
      have c : h < h - -magA s := by omega
      unfold nL nH nS; rw [if_pos c, if_pos c, if_pos c]; decide
    have r := interiorMoved l h s 0 _ _ _ _ hk (by omega) (by omega) (Lib.hid (show MovedTo _ l h s 0 _ _ _ _ from fun b0 o w hc => moved_Interior b0 o _ l h s _ _ _ _ w hk hle hc (fun w' hw' => inCloP l h _ 0 _ b0 o w' hw' (by omega) (by omega) (by omega) (by omega) (by omega) (by omega) (by omega) (by omega) (by omega)) ⟨by omega, by omega⟩ ⟨by omega, by omega⟩ (by omega) (by omega) hr))
    have c : h < h - (0 - 1) * magA s := by omega
    rwa [show nL (h - (0 - 1) * magA s) h = 1 from if_pos c, show nH (h - (0 - 1) * magA s) h = 0 from if_pos c, show nS (h - (0 - 1) * magA s) h (magA s) (decide (s < 0)) = 1 from if_pos c] at r
  · have z0 := empty_of hk hle
    obtain ⟨rfl, rfl, rfl⟩ := le_of_chk hk hle
    exact interiorMoved 1 0 1 0 _ _ _ _ hk (by omega) (by omega) (Lib.hid (movedTo_empty _ _))

theorem refCount_up (l h s n lo hi : Int) (hk : chk l h s = 0) (n0 : 0 < n) (hn1 : ¬ siz l h s < n) (hlo : lo = if s < 0 then h - (n - 1) * magA s else l) (hhi : hi = if s < 0 then h else l + (n - 1) * magA s) (ho : lo ≤ hi) :
    Ret4 31 l h s n (nL lo hi) (nH lo hi) (nS lo hi (magA s) (decide (s < 0))) 0 := by
  by_cases hs : s < 0
  · rw [if_pos hs] at hlo hhi
    by_cases e : lo = hi
    · subst e
      exact refCountUpC l h s n lo hk n0 hn1 (Lib.hid (by rw [if_pos hs]; omega)) (Lib.hid (by rw [if_pos hs]; exact hlo))
    · exact refCountUpB l h s n hi lo hk n0 hn1 (Lib.hid (by rw [if_pos hs]; omega)) (Lib.hid (by rw [if_pos hs]; exact hlo)) (by omega)
  · rw [if_neg hs] at hlo hhi
    by_cases e : lo = hi
    · subst e
      exact refCountUpC l h s n lo hk n0 hn1 (Lib.hid (by rw [if_neg hs]; omega)) (Lib.hid (by rw [if_neg hs]; exact hhi))
    · exact refCountUpA l h s n lo hi hk n0 hn1 (Lib.hid (by rw [if_neg hs]; omega)) (Lib.hid (by rw [if_neg hs]; exact hhi)) (by omega)

theorem refCount_down (l h s n lo hi : Int) (hk : chk l h s = 0) (n0 : n < 0) (hn2 : ¬ n < -siz l h s) (hlo : lo = if s < 0 then h - (siz l h s - 1) * magA s else l + (siz l h s + n) * magA s) (hhi : hi = if s < 0 then h - (siz l h s + n) * magA s else l + (siz l h s - 1) * magA s) (ho : lo ≤ hi) :
    Ret4 31 l h s n (nL lo hi) (nH lo hi) (nS lo hi (magA s) (decide (s < 0))) 0 := by
  by_cases hs : s < 0
  · rw [if_pos hs] at hlo hhi
    by_cases e : lo = hi
    · subst e
      exact refCountDownC l h s n lo hk n0 hn2 (Lib.hid (by rw [if_pos hs]; exact hhi)) (Lib.hid (by rw [if_pos hs]; exact hlo))
    · exact refCountDownB l h s n hi lo hk n0 hn2 (Lib.hid (by rw [if_pos hs]; exact hhi)) (Lib.hid (by rw [if_pos hs]; exact hlo)) (by omega)
  · rw [if_neg hs] at hlo hhi
    by_cases e : lo = hi
    · subst e
      exact refCountDownC l h s n lo hk n0 hn2 (Lib.hid (by rw [if_neg hs]; exact hlo)) (Lib.hid (by rw [if_neg hs]; exact hhi))
    · exact refCountDownA l h s n lo hi hk n0 hn2 (Lib.hid (by rw [if_neg hs]; exact hlo)) (Lib.hid (by rw [if_neg hs]; exact hhi)) (by omega)

theorem pairCount (l h s n : Int) (hl : I64 l) (hh : I64 h) (hs : I64 s) (hn : I64 n) : Pair 30 31 l h s n := by
  by_cases hk : chk l h s = 0
  · have zb := siz_bd hk
    by_cases ho : siz l h s < n ∨ n < -siz l h s
    · refine ⟨0, 0, 0, 5, ?_, refCountOver l h s n hk ho⟩
      by_cases hp : 0 < s
      · by_cases hm : n = -9223372036854775808
        · exact countUp l h s n n _ _ _ _ hp (by subst hm; show IntKind.i64.wrap (- -9223372036854775808) = -9223372036854775808; rw [IntKind.wrap_i64]; omega) (interiorCount l h s n hk ho)
        · have := hn.1
          have := hn.2
          exact countUp l h s n (-n) _ _ _ _ hp (IntWalk.i64_in _ (by omega)) (interiorCount l h s (-n) hk (by omega))
      · exact countDown l h s n _ _ _ _ hp (interiorCount l h s n hk ho)
    · have zn : -siz l h s ≤ n ∧ n ≤ siz l h s := by omega
      have hw : Hid (IntKind.i64.wrap (-n) = -n) := IntWalk.i64_in _ (by omega)
      by_cases n0 : n = 0
      · subst n0
        refine ⟨1, 0, 1, 0, ?_, refCountZero l h s hk⟩
        by_cases hp : 0 < s
        · exact countUp l h s 0 0 _ _ _ _ hp (by show IntKind.i64.wrap (-0) = 0; have := hw.out; simpa using this) (intZero l h s hk)
        · exact countDown l h s 0 _ _ _ _ hp (intZero l h s hk)
      · have hle : l ≤ h := by
          by_cases hle : l ≤ h
          · exact hle
          · have := empty_of hk hle; omega
        obtain ⟨st, z1, m1, s0⟩ := steps hk hle
        by_cases hp : 0 < s
        · have hs' : ¬ s < 0 := by omega
          by_cases np : 0 < n
          · have r := countUp l h s n (-n) _ _ _ _ hp hw (intDown l h s (-n) hk hle (by omega) (by omega))
            have p1 : 0 ≤ (n - 1) * magA s := Int.mul_nonneg (by omega) (by omega)
            rw [show - -n - 1 = n - 1 by omega] at r
            exact ⟨_, _, _, _, r, refCount_up l h s n l (l + (n - 1) * magA s) hk np (by omega) (by rw [if_neg hs']) (by rw [if_neg hs']) (by omega)⟩
          · have r := countUp l h s n (-n) _ _ _ _ hp hw (intUp l h s (-n) hk hle (by omega) (by omega))
            have p1 : 0 ≤ (-n - 1) * magA s := Int.mul_nonneg (by omega) (by omega)
            have e : (siz l h s + n) * magA s = (siz l h s - 1) * magA s - (-n - 1) * magA s := by rw [← Int.sub_mul]; congr 1; omega
            exact ⟨_, _, _, _, r, refCount_down l h s n (h - (-n - 1) * magA s) h hk (by omega) (by omega) (by rw [if_neg hs', e]; omega) (by rw [if_neg hs']; omega) (by omega)⟩
        · have hs' : s < 0 := by omega
          by_cases np : 0 < n
          · have r := countDown l h s n _ _ _ _ hp (intUp l h s n hk hle np (by omega))
            have p1 : 0 ≤ (n - 1) * magA s := Int.mul_nonneg (by omega) (by omega)
            exact ⟨_, _, _, _, r, refCount_up l h s n (h - (n - 1) * magA s) h hk np (by omega) (by rw [if_pos hs']) (by rw [if_pos hs']) (by omega)⟩
          · have r := countDown l h s n _ _ _ _ hp (intDown l h s n hk hle (by omega) (by omega))
            have p1 : 0 ≤ (-n - 1) * magA s := Int.mul_nonneg (by omega) (by omega)
            have e : (siz l h s + n) * magA s = (siz l h s - 1) * magA s - (-n - 1) * magA s := by rw [← Int.sub_mul]; congr 1; omega
            exact ⟨_, _, _, _, r, refCount_down l h s n l (l + (-n - 1) * magA s) hk (by omega) (by omega) (by rw [if_pos hs']; omega) (by rw [if_pos hs', e]; omega) (by omega)⟩
  · refine ⟨0, 0, 0, chk l h s, ?_, refCountChk l h s n hl hh hs hk⟩
    by_cases hp : 0 < s
    · by_cases hm : n = -9223372036854775808
      · exact countUp l h s n n _ _ _ _ hp (by subst hm; show IntKind.i64.wrap (- -9223372036854775808) = -9223372036854775808; rw [IntKind.wrap_i64]; omega) (interiorChk l h s n hl hh hs hk)
      · have := hn.1
        have := hn.2
        exact countUp l h s n (-n) _ _ _ _ hp (IntWalk.i64_in _ (by omega)) (interiorChk l h s (-n) hl hh hs hk)
    · exact countDown l h s n _ _ _ _ hp (interiorChk l h s n hl hh hs hk)

/-- remainders of multiples -/
theorem mul_rem (K m t : Int) (hm : 1 ≤ m) : (K * m) % (m * t) = (K % t) * m := by
  rw [Int.mul_comm K m, Int.mul_emod_mul_of_pos _ _ (by omega), Int.mul_comm]
theorem div_part (K m t : Int) : (K / t * t) * m = K * m - (K % t) * m := by rw [ediv_mul, Int.sub_mul]
theorem nS_same (l st : Int) (a b : Bool) : nS l l st a = nS l l st b := by unfold nS; simp

theorem refBy_up (l h s n lo hi : Int) (dn : Bool) (hk : chk l h s = 0) (n0 : 0 < n) (n2 : n ≤ 1000000) (hz : 1 ≤ siz l h s) (hlo : lo = if s < 0 then h - ((siz l h s - 1) / n * n) * magA s else l) (hhi : hi = if s < 0 then h else l + ((siz l h s - 1) / n * n) * magA s) (hd : dn = decide (s < 0)) (ho : lo ≤ hi) :
    Ret4 29 l h s n (nL lo hi) (nH lo hi) (nS lo hi (magA s * n) dn) 0 := by
  by_cases hs : s < 0
  · rw [if_pos hs] at hlo hhi
    by_cases e : lo = hi
    · subst e
      rw [nS_same _ _ dn false]
      exact refByUpC l h s n lo hk n0 n2 hz (Lib.hid (by rw [if_pos hs]; omega)) (Lib.hid (by rw [if_pos hs]; exact hlo))
    · have : dn = true := by rw [hd]; simp [hs]
      rw [this]
      exact refByUpB l h s n hi lo hk n0 n2 hz (Lib.hid (by rw [if_pos hs]; omega)) (Lib.hid (by rw [if_pos hs]; exact hlo)) (by omega)
  · rw [if_neg hs] at hlo hhi
    by_cases e : lo = hi
    · subst e
      rw [nS_same _ _ dn false]
      exact refByUpC l h s n lo hk n0 n2 hz (Lib.hid (by rw [if_neg hs]; omega)) (Lib.hid (by rw [if_neg hs]; exact hhi))
    · have : dn = false := by rw [hd]; simp; omega
      rw [this]
      exact refByUpA l h s n lo hi hk n0 n2 hz (Lib.hid (by rw [if_neg hs]; omega)) (Lib.hid (by rw [if_neg hs]; exact hhi)) (by omega)

theorem refBy_down (l h s t lo hi : Int) (dn : Bool) (hk : chk l h s = 0) (n0 : 0 < t) (n2 : t ≤ 1000000) (hz : 1 ≤ siz l h s) (hlo : lo = if s < 0 then h - (siz l h s - 1) * magA s else l + (siz l h s - 1 - (siz l h s - 1) / t * t) * magA s) (hhi : hi = if s < 0 then h - (siz l h s - 1 - (siz l h s - 1) / t * t) * magA s else l + (siz l h s - 1) * magA s) (hd : dn = !decide (s < 0)) (ho : lo ≤ hi) :
    Ret4 29 l h s (-t) (nL lo hi) (nH lo hi) (nS lo hi (magA s * t) dn) 0 := by
  by_cases hs : s < 0
  · rw [if_pos hs] at hlo hhi
    by_cases e : lo = hi
    · subst e
      rw [nS_same _ _ dn false]
      exact refByDownC l h s t lo hk n0 n2 hz (Lib.hid (by rw [if_pos hs]; exact hlo)) (Lib.hid (by rw [if_pos hs]; exact hhi))
    · have : dn = false := by rw [hd]; simp [hs]
      rw [this]
      exact refByDownA l h s t lo hi hk n0 n2 hz (Lib.hid (by rw [if_pos hs]; exact hlo)) (Lib.hid (by rw [if_pos hs]; exact hhi)) (by omega)
  · rw [if_neg hs] at hlo hhi
    by_cases e : lo = hi
    · subst e
      rw [nS_same _ _ dn false]
      exact refByDownC l h s t lo hk n0 n2 hz (Lib.hid (by rw [if_neg hs]; exact hhi)) (Lib.hid (by rw [if_neg hs]; exact hlo))
    · have : dn = true := by rw [hd]; simp; omega
      rw [this]
      exact refByDownB l h s t hi lo hk n0 n2 hz (Lib.hid (by rw [if_neg hs]; exact hhi)) (Lib.hid (by rw [if_neg hs]; exact hlo)) (by omega)

theorem pairBy (l h s n : Int) (hl : I64 l) (hh : I64 h) (hs : I64 s) (hn : I64 n) : Pair 28 29 l h s n := by
  by_cases hk : chk l h s = 0
  · by_cases n0 : n = 0
    · subst n0; exact ⟨_, _, _, _, byZero l h s hk, refByZero l h s hk⟩
    · by_cases nl : -1000000 ≤ n ∧ n ≤ 1000000
      · by_cases hle : l ≤ h
        · obtain ⟨st, z1, m1, s0⟩ := steps hk hle
          have r : Ret4 28 l h s n _ _ _ _ := fun w => By_ok l h s n w hk hle n0 nl.1 nl.2
          refine ⟨_, _, _, _, r, ?_⟩
          by_cases np : 0 < n
          · have mn : magA n = n := magA_pos (by omega)
            have dn : byDn (decide (s < 0)) n = decide (s < 0) := by unfold byDn; by_cases c : s < 0 <;> simp [c] <;> omega
            have rr := rem_bd (siz l h s - 1) n (by omega) (by omega)
            have rm := mul_rem (siz l h s - 1) (magA s) n m1
            have rp : 0 ≤ ((siz l h s - 1) % n) * magA s := Int.mul_nonneg rr.1 (by omega)
            have rq : ((siz l h s - 1) % n) * magA s ≤ (siz l h s - 1) * magA s := mul_le_right _ _ _ rr.2 (by omega)
            have dp := div_part (siz l h s - 1) (magA s) n
            unfold byLo byHi
            rw [dn, mn, st, rm]
            refine refBy_up l h s n _ _ _ hk np nl.2 z1 ?_ ?_ rfl ?_
            · by_cases c : s < 0
              · rw [if_pos (by simp [c]), if_pos c, dp]; omega
              · rw [if_neg (by simp [c]), if_neg c]
            · by_cases c : s < 0
              · rw [if_pos (by simp [c]), if_pos c]
              · rw [if_neg (by simp [c]), if_neg c, dp]; omega
            · by_cases c : s < 0
              · rw [if_pos (by simp [c]), if_pos (by simp [c])]; omega
              · rw [if_neg (by simp [c]), if_neg (by simp [c])]; omega
          · obtain ⟨t, rfl⟩ : ∃ t, n = -t := ⟨-n, by omega⟩
            have mn : magA (-t) = t := by rw [magA_neg (by omega), Int.neg_neg]
            have dn : byDn (decide (s < 0)) (-t) = !decide (s < 0) := by unfold byDn; by_cases c : s < 0 <;> simp [c] <;> omega
            have rr := rem_bd (siz l h s - 1) t (by omega) (by omega)
            have rm := mul_rem (siz l h s - 1) (magA s) t m1
            have rp : 0 ≤ ((siz l h s - 1) % t) * magA s := Int.mul_nonneg rr.1 (by omega)
            have rq : ((siz l h s - 1) % t) * magA s ≤ (siz l h s - 1) * magA s := mul_le_right _ _ _ rr.2 (by omega)
            have dp : (siz l h s - 1 - (siz l h s - 1) / t * t) * magA s = ((siz l h s - 1) % t) * magA s := by rw [ediv_mul]; congr 1; omega
            unfold byLo byHi
            rw [dn, mn, st, rm]
            refine refBy_down l h s t _ _ _ hk (by omega) (by omega) z1 ?_ ?_ rfl ?_
            · by_cases c : s < 0
              · rw [if_neg (by simp [c]), if_pos c]; omega
              · rw [if_pos (by simp; omega), if_neg c, dp]
            · by_cases c : s < 0
              · rw [if_neg (by simp [c]), if_pos c, dp]
              · rw [if_pos (by simp; omega), if_neg c]; omega
            · by_cases c : s < 0
              · rw [if_neg (by simp [c]), if_neg (by simp [c])]; omega
              · rw [if_pos (by simp; omega), if_pos (by simp; omega)]; omega
        · have z0 := empty_of hk hle
          obtain ⟨rfl, rfl, rfl⟩ := le_of_chk hk hle
          exact ⟨_, _, _, _, byEmpty n n0 nl.1 nl.2, refByEmpty 1 0 1 n hk n0 nl.1 nl.2 z0⟩
      · exact ⟨_, _, _, _, byOut l h s n hk n0 nl, refByOut l h s n hk n0 nl⟩
  · exact ⟨_, _, _, _, byChk l h s n hl hh hs hk, refByChk l h s n hl hh hs hk⟩
end Go.Proofs.Ytdifilndpilboaa
