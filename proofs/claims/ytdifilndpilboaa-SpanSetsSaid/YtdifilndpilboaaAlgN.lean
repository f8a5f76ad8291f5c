/-
  Plain facts on right ranges as sets of numbers: a range is told by its numbers; one that lies in another and has as many is the other; the least range that has two others. No program in sight.
-/
import Derived.Test.YtdifilndpilboaaAlgM
namespace Go.Proofs.Ytdifilndpilboaa

/-- a right range that is not empty, as steps -/
theorem steps_a {l h s : Int} (hk : chk l h s = 0) (hle : l ≤ h) : h - l = (siz l h s - 1) * magA s ∧ 1 ≤ siz l h s ∧ 1 ≤ magA s ∧ s ≠ 0 := by
  have e := siz_ok hk hle
  rcases chk_zero hk with ⟨rfl, rfl, rfl⟩ | ⟨a1, a2, a3, a4, a5, a6, a7, a8, a9, _⟩
  · omega
  · have q := quo_bd (h - l) (magA s) (by omega) a7
    refine ⟨?_, by omega, a7, a4⟩
    have := ediv_mul (h - l) (magA s)
    rw [e, show (h - l) / magA s + 1 - 1 = (h - l) / magA s by omega, this]; omega

theorem mulr_a (a b m : Int) (h : a ≤ b) (hm : 0 ≤ m) : a * m ≤ b * m := Int.mul_le_mul_of_nonneg_right h hm

theorem empty_a {l h s : Int} (_hk : chk l h s = 0) (hle : ¬ l ≤ h) : siz l h s = 0 := if_neg (fun c => hle c.2)

/-- the numbers of a range -/
def RMem (l h s n : Int) : Prop := Mem l h (magA s) n

theorem rmem_lo {l h s : Int} (hle : l ≤ h) : RMem l h s l := ⟨by omega, hle, by rw [Int.sub_self]; exact Int.dvd_zero _⟩
theorem rmem_hi {l h s : Int} (hk : chk l h s = 0) (hle : l ≤ h) : RMem l h s h := by
  obtain ⟨st, _, _, _⟩ := steps_a hk hle
  exact ⟨hle, by omega, ⟨siz l h s - 1, by rw [st, Int.mul_comm]⟩⟩
theorem rmem_next {l h s : Int} (hk : chk l h s = 0) (hlt : l < h) : RMem l h s (l + magA s) := by
  obtain ⟨st, z, m, _⟩ := steps_a hk (by omega)
  have : 1 ≤ siz l h s - 1 := by
    by_cases c : siz l h s - 1 = 0
    · rw [c, Int.zero_mul] at st; omega
    · omega
  have : 1 * magA s ≤ (siz l h s - 1) * magA s := mulr_a _ _ _ this (by omega)
  exact ⟨by omega, by omega, ⟨1, by omega⟩⟩
theorem rmem_none {l h s n : Int} (hle : ¬ l ≤ h) : ¬ RMem l h s n := fun hm => hle (by have := hm.1; have := hm.2.1; omega)

theorem canon {l h s l' h' s' : Int} (hk : chk l h s = 0) (hk' : chk l' h' s' = 0) (hm : ∀ n, RMem l h s n ↔ RMem l' h' s' n) : l = l' ∧ h = h' ∧ siz l h s = siz l' h' s' := by
  by_cases hle : l ≤ h
  · have a1 := (hm l).1 (rmem_lo hle)
    have a2 := (hm h).1 (rmem_hi hk hle)
    have hle' : l' ≤ h' := by have := a1.1; have := a1.2.1; omega
    have b1 := (hm l').2 (rmem_lo hle')
    have b2 := (hm h').2 (rmem_hi hk' hle')
    have e1 : l = l' := by have := a1.1; have := b1.1; omega
    have e2 : h = h' := by have := a2.2.1; have := b2.2.1; omega
    subst e1 e2
    refine ⟨rfl, rfl, ?_⟩
    rw [siz_ok hk hle, siz_ok hk' hle']
    by_cases c : l = h
    · subst c; simp
    · have c1 := (hm _).1 (rmem_next hk (by omega))
      have c2 := (hm _).2 (rmem_next hk' (by omega))
      obtain ⟨_, _, m, _⟩ := steps_a hk hle
      obtain ⟨_, _, m', _⟩ := steps_a hk' hle'
      have d1 : magA s' ∣ magA s := by have := c1.2.2; rwa [show l + magA s - l = magA s by omega] at this
      have d2 : magA s ∣ magA s' := by have := c2.2.2; rwa [show l + magA s' - l = magA s' by omega] at this
      have : magA s = magA s' := Int.le_antisymm (Int.le_of_dvd (by omega) d2) (Int.le_of_dvd (by omega) d1)
      rw [this]
  · have hle' : ¬ l' ≤ h' := fun c => hle (by have := (hm l').2 (rmem_lo c); have := this.1; have := (hm l').2 (rmem_lo c) |>.2.1; omega)
    obtain ⟨rfl, rfl, rfl⟩ := le_of_chk hk hle
    obtain ⟨rfl, rfl, rfl⟩ := le_of_chk hk' hle'
    exact ⟨rfl, rfl, rfl⟩

/-- a range within another one has as many numbers just if it has all of them -/
theorem within_iff {l h s l' h' s' : Int} (hk : chk l h s = 0) (hk' : chk l' h' s' = 0) (hsub : ∀ n, RMem l' h' s' n → RMem l h s n) : siz l' h' s' = siz l h s ↔ ∀ n, RMem l h s n → RMem l' h' s' n := by
  constructor
  · intro hz
    by_cases hle : l ≤ h
    · obtain ⟨st, z, m, _⟩ := steps_a hk hle
      have hle' : l' ≤ h' := by
        by_cases c : l' ≤ h'
        · exact c
        · have := empty_a hk' c; omega
      obtain ⟨st', z', m', _⟩ := steps_a hk' hle'
      have a1 := hsub _ (rmem_lo hle')
      have a2 := hsub _ (rmem_hi hk' hle')
      by_cases c : siz l h s = 1
      · rw [hz, c] at st'; rw [c] at st
        have e0 : (1 - 1 : Int) * magA s = 0 := by omega
        have e0' : (1 - 1 : Int) * magA s' = 0 := by omega
        have := a1.1; have := a1.2.1; have := a2.1; have := a2.2.1
        intro n hn
        have := hn.1; have := hn.2.1
        have e : n = l' := by omega
        rw [e]; exact rmem_lo hle'
      · have lt' : l' < h' := by
          rw [hz] at st'
          have : 1 * magA s' ≤ (siz l h s - 1) * magA s' := mulr_a _ _ _ (by omega) (by omega)
          omega
        have a3 := hsub _ (rmem_next hk' lt')
        have d : magA s ∣ magA s' := by
          have := Int.dvd_sub a3.2.2 a1.2.2
          rwa [show l' + magA s' - l - (l' - l) = magA s' by omega] at this
        have le1 : magA s ≤ magA s' := Int.le_of_dvd (by omega) d
        have le2 : (siz l h s - 1) * magA s ≤ (siz l h s - 1) * magA s' := Int.mul_le_mul_of_nonneg_left le1 (by omega)
        rw [hz] at st'
        have := a1.1; have := a2.2.1
        have e1 : l = l' := by omega
        have e2 : h = h' := by omega
        have e3 : (siz l h s - 1) * magA s = (siz l h s - 1) * magA s' := by omega
        have e4 : magA s = magA s' := Int.eq_of_mul_eq_mul_left (by omega) e3
        intro n hn
        have hn' := hn
        unfold RMem at hn' ⊢
        rw [← e1, ← e2, ← e4]; exact hn'
    · intro n hn; exact absurd hn (rmem_none hle)
  · intro hall
    exact (canon hk' hk fun n => ⟨hsub n, hall n⟩).2.2

/-- the least range that has two others -/
theorem hull_ok {l1 h1 s1 l2 h2 s2 g lo hi : Int} (hA : chk l1 h1 s1 = 0) (leA : l1 ≤ h1) (hB : chk l2 h2 s2 = 0) (leB : l2 ≤ h2) (g0 : 0 ≤ g)
    (ga : l1 < h1 → g ∣ magA s1) (gb : l2 < h2 → g ∣ magA s2) (gd : g ∣ l1 - l2) (ge : ∀ e, (l1 < h1 → e ∣ magA s1) → (l2 < h2 → e ∣ magA s2) → e ∣ l1 - l2 → e ∣ g)
    (hlo : lo = min l1 l2) (hhi : hi = max h1 h2) :
    chk (nL lo hi) (nH lo hi) (nS lo hi g false) = 0 ∧ (∀ n, RMem l1 h1 s1 n → RMem (nL lo hi) (nH lo hi) (nS lo hi g false) n) ∧ (∀ n, RMem l2 h2 s2 n → RMem (nL lo hi) (nH lo hi) (nS lo hi g false) n) ∧
      ∀ l h s, chk l h s = 0 → (∀ n, RMem l1 h1 s1 n → RMem l h s n) → (∀ n, RMem l2 h2 s2 n → RMem l h s n) → ∀ n, RMem (nL lo hi) (nH lo hi) (nS lo hi g false) n → RMem l h s n := by
  obtain ⟨stA, zA, mA, _⟩ := steps_a hA leA
  obtain ⟨stB, zB, mB, _⟩ := steps_a hB leB
  have bA := chk_bounds hA
  have bB := chk_bounds hB
  have e1 : nL lo hi = lo := if_neg (by omega)
  have e2 : nH lo hi = hi := if_neg (by omega)
  -- each number of both differs from the least one by a multiple of g
  have kA : ∀ n, RMem l1 h1 s1 n → g ∣ n - lo := by
    intro n hn
    have h1' : g ∣ n - l1 := by
      by_cases c : l1 < h1
      · exact Int.dvd_trans (ga c) hn.2.2
      · have := hn.1; have := hn.2.1
        rw [show n - l1 = 0 by omega]; exact Int.dvd_zero _
    by_cases c : l1 ≤ l2
    · rwa [show lo = l1 by omega]
    · have := Int.dvd_add h1' gd
      rwa [show n - l1 + (l1 - l2) = n - lo by omega] at this
  have kB : ∀ n, RMem l2 h2 s2 n → g ∣ n - lo := by
    intro n hn
    have h1' : g ∣ n - l2 := by
      by_cases c : l2 < h2
      · exact Int.dvd_trans (gb c) hn.2.2
      · have := hn.1; have := hn.2.1
        rw [show n - l2 = 0 by omega]; exact Int.dvd_zero _
    by_cases c : l1 ≤ l2
    · have := Int.dvd_sub h1' gd
      rwa [show n - l2 - (l1 - l2) = n - lo by omega] at this
    · rwa [show lo = l2 by omega]
  have kH : g ∣ hi - lo := by
    by_cases c : h1 ≤ h2
    · have := kB _ (rmem_hi hB leB); rwa [show hi = h2 by omega]
    · have := kA _ (rmem_hi hA leA); rwa [show hi = h1 by omega]
  by_cases c : lo = hi
  · have e3 : nS lo hi g false = 1 := by unfold nS; rw [if_neg (by omega), if_pos c]
    have hc := chk_nrm lo hi 1 false (by omega) (by omega) (by omega)
    have e3' : nS lo hi 1 false = 1 := by unfold nS; rw [if_neg (by omega), if_pos c]
    rw [e1, e2, e3'] at hc
    rw [e1, e2, e3]
    refine ⟨by rw [hc, if_neg (by omega)], ?_, ?_, ?_⟩
    · intro n hn
      have := hn.1; have := hn.2.1
      exact ⟨by omega, by omega, Int.one_dvd _⟩
    · intro n hn
      have := hn.1; have := hn.2.1
      exact ⟨by omega, by omega, Int.one_dvd _⟩
    · intro l h s _ hsA _ n hn
      have := hn.1; have := hn.2.1
      have := hsA _ (rmem_lo leA)
      rwa [show n = l1 by omega]
  · have gp : 1 ≤ g := by
      by_cases z : g = 0
      · rw [z] at kH; have := Int.zero_dvd.1 kH; omega
      · omega
    have e3 : nS lo hi g false = g := by unfold nS; rw [if_neg (by omega), if_neg c]; rfl
    have em : magA g = g := magA_pos g0
    have hc := chk_nrm lo hi g false (by omega) gp (Int.emod_eq_zero_of_dvd kH)
    rw [e1, e2, e3] at hc ⊢
    refine ⟨by rw [hc, if_neg (by omega)], ?_, ?_, ?_⟩
    · intro n hn
      have := hn.1; have := hn.2.1
      exact ⟨by omega, by omega, by rw [em]; exact kA n hn⟩
    · intro n hn
      have := hn.1; have := hn.2.1
      exact ⟨by omega, by omega, by rw [em]; exact kB n hn⟩
    · intro l h s hk hsA hsB n hn
      have a1 := hsA _ (rmem_lo leA)
      have a2 := hsA _ (rmem_hi hA leA)
      have b1 := hsB _ (rmem_lo leB)
      have b2 := hsB _ (rmem_hi hB leB)
      have gg : magA s ∣ g := by
        refine ge _ ?_ ?_ ?_
        · intro c1
          have := Int.dvd_sub (hsA _ (rmem_next hA c1)).2.2 a1.2.2
          rwa [show l1 + magA s1 - l - (l1 - l) = magA s1 by omega] at this
        · intro c1
          have := Int.dvd_sub (hsB _ (rmem_next hB c1)).2.2 b1.2.2
          rwa [show l2 + magA s2 - l - (l2 - l) = magA s2 by omega] at this
        · have := Int.dvd_sub a1.2.2 b1.2.2
          rwa [show l1 - l - (l2 - l) = l1 - l2 by omega] at this
      have hn3 := hn.2.2
      rw [em] at hn3
      have d1 : magA s ∣ lo - l := by
        by_cases c1 : l1 ≤ l2
        · rw [show lo = l1 by omega]; exact a1.2.2
        · rw [show lo = l2 by omega]; exact b1.2.2
      have d2 := Int.dvd_add (Int.dvd_trans gg hn3) d1
      rw [show n - lo + (lo - l) = n - l by omega] at d2
      have := hn.1; have := hn.2.1; have := a1.1; have := b1.1; have := a2.2.1; have := b2.2.1
      exact ⟨by omega, by omega, d2⟩
end Go.Proofs.Ytdifilndpilboaa
