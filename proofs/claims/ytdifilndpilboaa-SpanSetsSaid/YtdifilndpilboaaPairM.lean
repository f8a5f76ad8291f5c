/-
  Arithmetic of the reference's Intersect: the first common number, and the range of all.
-/
import Derived.Test.YtdifilndpilboaaRefM
import Derived.Test.YtdifilndpilboaaAlgC
import Derived.Test.YtdifilndpilboaaAlgN
namespace Go.Proofs.Ytdifilndpilboaa
open Go.RowKit

/-- two right ranges with the same numbers and the same direction -/
theorem canonS {l h s l' h' s' : Int} (hk : chk l h s = 0) (hk' : chk l' h' s' = 0) (hm : ∀ n, RMem l h s n ↔ RMem l' h' s' n) (hd : l < h → (s < 0 ↔ s' < 0)) : l = l' ∧ h = h' ∧ s = s' := by
  obtain ⟨e1, e2, _⟩ := canon hk hk' hm
  refine ⟨e1, e2, ?_⟩
  subst e1 e2
  rcases chk_zero hk with ⟨_, _, c⟩ | ⟨a1, a2, a3, a4, a5, a6, a7, a8, a9, a10⟩
  · rcases chk_zero hk' with ⟨_, _, c'⟩ | ⟨b1, b2, _⟩
    · rw [c, c']
    · omega
  · rcases chk_zero hk' with ⟨_, _, c'⟩ | ⟨b1, b2, b3, b4, b5, b6, b7, b8, b9, b10⟩
    · omega
    by_cases c : l = h
    · rw [a10 c, b10 c]
    · have c1 := (hm _).1 (rmem_next hk (by omega))
      have c2 := (hm _).2 (rmem_next hk' (by omega))
      obtain ⟨_, _, m, _⟩ := steps_a hk (show l ≤ h by omega)
      obtain ⟨_, _, m', _⟩ := steps_a hk' (show l ≤ h by omega)
      have d1 : magA s' ∣ magA s := by have := c1.2.2; rwa [show l + magA s - l = magA s by omega] at this
      have d2 : magA s ∣ magA s' := by have := c2.2.2; rwa [show l + magA s' - l = magA s' by omega] at this
      have q : magA s = magA s' := Int.le_antisymm (Int.le_of_dvd (by omega) d2) (Int.le_of_dvd (by omega) d1)
      have := hd (by omega)
      unfold magA at q
      split at q <;> split at q <;> omega

theorem EInv.ends {a b : Int} (hb2 : b ≤ 4000000) : ∀ (n : Nat) (r0 x0 r1 x1 : Int), EInv a b r0 x0 r1 x1 → r1.toNat ≤ n → ∃ d x, Gcd a b d x
  | n, r0, x0, r1, x1, hi, hn => by
    by_cases hz : r1 = 0
    · subst hz; exact ⟨_, _, hi.done⟩
    · obtain ⟨s1, s2⟩ := hi.step hb2 hz
      have n1 := hi.n1
      match n, hn with
      | 0, hn => omega
      | n + 1, hn => exact EInv.ends hb2 n _ _ _ _ s1 (by have := s1.n1; omega)

theorem gcdI_gcd (a b : Int) (ha : 0 ≤ a) (hb : 0 ≤ b) (ha2 : a ≤ 4000000) (hb2 : b ≤ 4000000) : ∃ x, Gcd a b (gcdI a b) x := by
  obtain ⟨d, x, g⟩ := EInv.ends hb2 _ _ _ _ _ (EInv.start a b ha hb ha2 hb2) (Nat.le_refl _)
  have e : d = gcdI a b := Int.dvd_antisymm g.n (Int.natCast_nonneg _) (Int.dvd_coe_gcd g.da g.db) (g.all (Int.gcd_dvd_left _ _) (Int.gcd_dvd_right _ _))
  exact ⟨x, e ▸ g⟩

/-- the first number of a progression from a bound on -/
theorem first_ge {l low s f : Int} (hs : 1 ≤ s) (_hl : l ≤ low) (hf : f = l + (low - l + s - 1) / s * s) : s ∣ f - l ∧ low ≤ f ∧ f ≤ low + s - 1 ∧ ∀ n, low ≤ n → s ∣ n - l → f ≤ n := by
  have e := Int.mul_ediv_add_emod (low - l + s - 1) s
  have r0 := Int.emod_nonneg (low - l + s - 1) (show s ≠ 0 by omega)
  have r1 := Int.emod_lt_of_pos (low - l + s - 1) (show 0 < s by omega)
  rw [Int.mul_comm] at e
  refine ⟨⟨(low - l + s - 1) / s, by rw [Int.mul_comm]; omega⟩, by omega, by omega, ?_⟩
  rintro n hn ⟨k, hk⟩
  have q : (low - l + s - 1) / s ≤ k := by
    refine Int.le_of_lt_add_one (Int.ediv_lt_of_lt_mul (by omega) ?_)
    rw [Int.add_mul, Int.mul_comm k]
    omega
  have := Int.mul_le_mul_of_nonneg_right q (show 0 ≤ s by omega)
  rw [Int.mul_comm k] at this
  omega

/-- no common number: the least would not be the least -/
theorem no_common {l1 h1 s1 l2 h2 s2 f : Int} (hs1 : 1 ≤ s1) (hs2 : 1 ≤ s2) (a : l1 ≤ f) (b : l2 ≤ f) (c : ∀ n, Mem l1 h1 s1 n → Mem l2 h2 s2 n → f + s2 * s1 ≤ n) :
    ∀ (m : Nat) (n : Int), (n - f).toNat ≤ m → Mem l1 h1 s1 n → Mem l2 h2 s2 n → False
  | m, n, hm, m1, m2 => by
    have p : 1 * 1 ≤ s2 * s1 := Int.mul_le_mul hs2 hs1 (by omega) (by omega)
    have hc := c n m1 m2
    have u1 := m1.2.1
    have u2 := m2.2.1
    match m, hm with
    | 0, hm => omega
    | m + 1, hm =>
      refine no_common hs1 hs2 a b c m (n - s2 * s1) (by omega) ⟨by omega, by omega, ?_⟩ ⟨by omega, by omega, ?_⟩
      · have := Int.dvd_sub m1.2.2 (Int.dvd_mul_left s2 s1)
        rwa [show n - l1 - s2 * s1 = n - s2 * s1 - l1 by omega] at this
      · have := Int.dvd_sub m2.2.2 (Int.dvd_mul_right s2 s1)
        rwa [show n - l2 - s2 * s1 = n - s2 * s1 - l2 by omega] at this

/-- the range from the first common number on -/
theorem common_from {l1 h1 s1 l2 h2 s2 d x f H : Int} (g : Gcd s1 s2 d x) (hs : 1 ≤ s1) (hs2 : 1 ≤ s2) (m1 : Mem l1 h1 s1 f) (m2 : Mem l2 h2 s2 f) (c : ∀ n, Mem l1 h1 s1 n → Mem l2 h2 s2 n → f ≤ n)
    (hH : H = f + (min h1 h2 - f) / (s1 / d * s2) * (s1 / d * s2)) : f ≤ H ∧ H ≤ min h1 h2 ∧ s1 / d * s2 ∣ H - f ∧ ∀ n, Mem f H (s1 / d * s2) n ↔ Mem l1 h1 s1 n ∧ Mem l2 h2 s2 n := by
  obtain ⟨p1, v1, v2, _, _⟩ := lcm_facts g hs hs2
  have lcm := fun n => lcm_dvd (n := n) g hs
  generalize hS : s1 / d * s2 = S at *
  obtain ⟨a1, a2, a3⟩ := m1
  obtain ⟨b1, b2, b3⟩ := m2
  have e := Int.mul_ediv_add_emod (min h1 h2 - f) S
  have r0 := Int.emod_nonneg (min h1 h2 - f) (show S ≠ 0 by omega)
  have r1 := Int.emod_lt_of_pos (min h1 h2 - f) (show 0 < S by omega)
  have q0 : 0 ≤ (min h1 h2 - f) / S := Int.ediv_nonneg (by omega) (by omega)
  have q1 := Int.mul_nonneg q0 (show 0 ≤ S by omega)
  rw [Int.mul_comm] at e
  refine ⟨by omega, by omega, ⟨(min h1 h2 - f) / S, by rw [Int.mul_comm]; omega⟩, fun n => ⟨?_, ?_⟩⟩
  · rintro ⟨n1, n2, n3⟩
    refine ⟨⟨by omega, by omega, ?_⟩, ⟨by omega, by omega, ?_⟩⟩
    · have := Int.dvd_add (Int.dvd_trans v1 n3) a3
      rwa [show n - f + (f - l1) = n - l1 by omega] at this
    · have := Int.dvd_add (Int.dvd_trans v2 n3) b3
      rwa [show n - f + (f - l2) = n - l2 by omega] at this
  · rintro ⟨n1, n2⟩
    have := c n n1 n2
    have k1 : s1 ∣ n - f := by
      have := Int.dvd_sub n1.2.2 a3
      rwa [show n - l1 - (f - l1) = n - f by omega] at this
    have k2 : s2 ∣ n - f := by
      have := Int.dvd_sub n2.2.2 b3
      rwa [show n - l2 - (f - l2) = n - f by omega] at this
    have k3 := lcm _ k1 k2
    refine ⟨by omega, ?_, k3⟩
    obtain ⟨k, hk⟩ := k3
    have u1 := n1.2.1
    have u2 := n2.2.1
    have : k ≤ (min h1 h2 - f) / S := by
      refine (Int.le_ediv_iff_mul_le (by omega)).2 ?_
      rw [Int.mul_comm]; omega
    have := Int.mul_le_mul_of_nonneg_right this (show 0 ≤ S by omega)
    rw [Int.mul_comm k] at this
    omega
end Go.Proofs.Ytdifilndpilboaa
