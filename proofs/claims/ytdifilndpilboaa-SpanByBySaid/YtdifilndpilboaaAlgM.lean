/-
  Plain facts on progressions of numbers: what two have in common, the least one that has both, and Euclid's algorithm. No program in sight.
-/
import Derived.Test.YtdifilndpilboaaSpanH
namespace Go.Proofs.Ytdifilndpilboaa

/-- the numbers of a progression -/
def Mem (l h m n : Int) : Prop := l ≤ n ∧ n ≤ h ∧ m ∣ n - l

/-- what Euclid's algorithm keeps -/
structure EInv (a b r0 x0 r1 x1 : Int) : Prop where
  n0 : 0 ≤ r0
  n1 : 0 ≤ r1
  m0 : r0 ≤ 4000000
  m1 : r1 ≤ 4000000
  dv : ∀ d : Int, d ∣ r0 → d ∣ r1 → d ∣ a ∧ d ∣ b
  z0 : ∃ y, r0 = a * x0 + b * y
  z1 : ∃ y, r1 = a * x1 + b * y
  bd : ∃ u0 u1 : Int, 0 ≤ u0 ∧ 0 ≤ u1 ∧ u0 ≤ 4000001 ∧ u1 ≤ 4000001 ∧ u0 * r1 + u1 * r0 = b ∧ ((x0 = u0 ∧ x1 = -u1) ∨ (x0 = -u0 ∧ x1 = u1))

theorem EInv.start (a b : Int) (ha : 0 ≤ a) (hb : 0 ≤ b) (ha2 : a ≤ 4000000) (hb2 : b ≤ 4000000) : EInv a b a 1 b 0 :=
  ⟨ha, hb, ha2, hb2, fun _ h1 h2 => ⟨h1, h2⟩, ⟨0, by omega⟩, ⟨1, by omega⟩, ⟨1, 0, by omega, by omega, by omega, by omega, by omega, Or.inl ⟨rfl, rfl⟩⟩⟩

theorem EInv.x_bd {a b r0 x0 r1 x1 : Int} (h : EInv a b r0 x0 r1 x1) : -4000001 ≤ x0 ∧ x0 ≤ 4000001 ∧ -4000001 ≤ x1 ∧ x1 ≤ 4000001 := by
  obtain ⟨u0, u1, h0, h1, h2, h3, _, h5⟩ := h.bd
  omega

theorem EInv.q_bd {a b r0 x0 r1 x1 : Int} (h : EInv a b r0 x0 r1 x1) (hb2 : b ≤ 4000000) (hr : ¬ r1 = 0) :
    0 ≤ r0 / r1 ∧ r0 / r1 ≤ r0 ∧ 0 ≤ r0 / r1 * r1 ∧ r0 / r1 * r1 ≤ r0 ∧ -4000000 ≤ r0 / r1 * x1 ∧ r0 / r1 * x1 ≤ 4000000 := by
  have n0 := h.n0
  have n1 := h.n1
  have q := quo_bd r0 r1 n0 (by omega)
  have e := ediv_mul r0 r1
  have r := rem_bd r0 r1 n0 (by omega)
  obtain ⟨u0, u1, h0, h1, _, _, hu, h5⟩ := h.bd
  have p0 : 0 ≤ u0 * r1 := Int.mul_nonneg h0 n1
  have p1 : u1 * (r0 / r1) ≤ u1 * r0 := Int.mul_le_mul_of_nonneg_left q.2 h1
  have p2 : 0 ≤ u1 * (r0 / r1) := Int.mul_nonneg h1 q.1
  have c : r0 / r1 * u1 = u1 * (r0 / r1) := Int.mul_comm _ _
  have cn : r0 / r1 * -u1 = -(u1 * (r0 / r1)) := by rw [Int.mul_neg, c]
  refine ⟨q.1, q.2, by omega, by omega, ?_⟩
  rcases h5 with ⟨_, hx⟩ | ⟨_, hx⟩
  · rw [hx, cn]; omega
  · rw [hx, c]; omega

theorem EInv.step {a b r0 x0 r1 x1 : Int} (h : EInv a b r0 x0 r1 x1) (hb2 : b ≤ 4000000) (hr : ¬ r1 = 0) :
    EInv a b r1 x1 (r0 - r0 / r1 * r1) (x0 - r0 / r1 * x1) ∧ r0 - r0 / r1 * r1 < r1 := by
  have n0 := h.n0
  have n1 := h.n1
  have m0 := h.m0
  have m1 := h.m1
  have q := quo_bd r0 r1 n0 (by omega)
  have e := ediv_mul r0 r1
  have r := rem_bd r0 r1 n0 (by omega)
  have rl := Int.emod_lt_of_pos r0 (show 0 < r1 by omega)
  obtain ⟨u0, u1, h0, h1, h2, h3, hu, h5⟩ := h.bd
  obtain ⟨y0, z0⟩ := h.z0
  obtain ⟨y1, z1⟩ := h.z1
  have q2 := h.q_bd hb2 hr
  have c : r0 / r1 * u1 = u1 * (r0 / r1) := Int.mul_comm _ _
  have p0 : 0 ≤ u1 * (r0 / r1) := Int.mul_nonneg h1 q.1
  have key : u1 * (r0 - r0 / r1 * r1) + (u0 + u1 * (r0 / r1)) * r1 = b := by
    rw [Int.mul_sub, Int.add_mul, ← Int.mul_assoc]; omega
  have k1 : 0 ≤ u1 * (r0 - r0 / r1 * r1) := Int.mul_nonneg h1 (by omega)
  have k2 : (u0 + u1 * (r0 / r1)) * 1 ≤ (u0 + u1 * (r0 / r1)) * r1 := Int.mul_le_mul_of_nonneg_left (by omega) (by omega)
  refine ⟨⟨n1, by omega, m1, by omega, ?_, ⟨y1, z1⟩, ⟨y0 - r0 / r1 * y1, ?_⟩, ⟨u1, u0 + u1 * (r0 / r1), h1, by omega, h3, by omega, key, ?_⟩⟩, by omega⟩
  · intro d d1 d2
    refine h.dv d ?_ d1
    have : r0 = (r0 - r0 / r1 * r1) + r0 / r1 * r1 := by omega
    rw [this]
    exact Int.dvd_add d2 (Int.dvd_trans d1 (Int.dvd_mul_left _ _))
  · have e1 : a * (x0 - r0 / r1 * x1) = a * x0 - r0 / r1 * (a * x1) := by rw [Int.mul_sub, Int.mul_left_comm]
    have e2 : b * (y0 - r0 / r1 * y1) = b * y0 - r0 / r1 * (b * y1) := by rw [Int.mul_sub, Int.mul_left_comm]
    have e3 : r0 / r1 * r1 = r0 / r1 * (a * x1) + r0 / r1 * (b * y1) := by
      have := congrArg (fun t => r0 / r1 * t) z1
      simp only [Int.mul_add] at this
      exact this
    omega
  · rcases h5 with ⟨hx0, hx1⟩ | ⟨hx0, hx1⟩
    · right
      refine ⟨hx1, ?_⟩
      rw [hx0, hx1, Int.mul_neg, c]; omega
    · left
      refine ⟨hx1, ?_⟩
      rw [hx0, hx1, c]; omega

/-- what euclid returns -/
structure Gcd (a b d x : Int) : Prop where
  n : 0 ≤ d
  m : d ≤ 4000000
  da : d ∣ a
  db : d ∣ b
  z : ∃ y, d = a * x + b * y
  x1 : -4000001 ≤ x
  x2 : x ≤ 4000001

theorem EInv.done {a b r0 x0 x1 : Int} (h : EInv a b r0 x0 0 x1) : Gcd a b r0 x0 :=
  ⟨h.n0, h.m0, (h.dv r0 (Int.dvd_refl _) (Int.dvd_zero _)).1, (h.dv r0 (Int.dvd_refl _) (Int.dvd_zero _)).2, h.z0, h.x_bd.1, h.x_bd.2.1⟩

theorem Gcd.pos {a b d x : Int} (g : Gcd a b d x) (ha : 1 ≤ a) : 1 ≤ d := by
  have := g.n
  by_cases c : d = 0
  · have := g.da; rw [c] at this; have := Int.zero_dvd.1 this; omega
  · omega
theorem Gcd.le {a b d x : Int} (g : Gcd a b d x) (ha : 1 ≤ a) : d ≤ a := Int.le_of_dvd (by omega) g.da
theorem Gcd.le' {a b d x : Int} (g : Gcd a b d x) (hb : 1 ≤ b) : d ≤ b := Int.le_of_dvd (by omega) g.db
theorem Gcd.all {a b d x e : Int} (g : Gcd a b d x) (h1 : e ∣ a) (h2 : e ∣ b) : e ∣ d := by
  obtain ⟨y, hy⟩ := g.z
  rw [hy]
  exact Int.dvd_add (Int.dvd_trans h1 (Int.dvd_mul_right _ _)) (Int.dvd_trans h2 (Int.dvd_mul_right _ _))

/-- no common number, if the distance is no multiple of the divisor -/
theorem no_meet {l1 h1 s1 l2 h2 s2 d x n : Int} (g : Gcd s1 s2 d x) (hn : ¬ d ∣ l2 - l1) (m1 : Mem l1 h1 s1 n) (m2 : Mem l2 h2 s2 n) : False := by
  apply hn
  have e1 := Int.dvd_trans g.da m1.2.2
  have e2 := Int.dvd_trans g.db m2.2.2
  have := Int.dvd_sub e1 e2
  rwa [show n - l1 - (n - l2) = l2 - l1 by omega] at this

/-- the meeting point lies on both -/
theorem meets {l1 s1 l2 s2 d x t : Int} (g : Gcd s1 s2 d x) (hs : 1 ≤ s1) (hd : d ∣ l2 - l1) (ht : (s2 / d) ∣ (t - (l2 - l1) / d * x)) : s1 ∣ l1 + t * s1 - l1 ∧ s2 ∣ l1 + t * s1 - l2 := by
  have d1 := g.pos hs
  refine ⟨⟨t, by rw [Int.mul_comm]; omega⟩, ?_⟩
  obtain ⟨k, hk⟩ := hd
  obtain ⟨y, hy⟩ := g.z
  obtain ⟨s', hs'⟩ := g.db
  obtain ⟨a', ha'⟩ := g.da
  have e1 : s2 / d = s' := by rw [hs', Int.mul_ediv_cancel_left _ (by omega)]
  have e2 : (l2 - l1) / d = k := by rw [hk, Int.mul_ediv_cancel_left _ (by omega)]
  rw [e1, e2] at ht
  obtain ⟨j, hj⟩ := ht
  have et : t = s' * j + k * x := by omega
  -- l1 + t s1 - l2 = (s' j + k x) s1 - d k = s' j s1 + k (x s1 - d) = s' j d a' - k s2 y
  refine ⟨j * a' - k * y, ?_⟩
  have f1 : t * s1 = s' * j * s1 + k * x * s1 := by rw [et, Int.add_mul]
  have f2 : s' * j * s1 = s2 * (j * a') := by rw [ha', hs']; simp only [Int.mul_comm, Int.mul_left_comm]
  have f3 : k * x * s1 = k * d - k * (s2 * y) := by
    have : s1 * x = d - s2 * y := by omega
    rw [Int.mul_assoc, Int.mul_comm x s1, this, Int.mul_sub]
  have f4 : s2 * (j * a' - k * y) = s2 * (j * a') - k * (s2 * y) := by rw [Int.mul_sub, Int.mul_left_comm s2 k y]
  have f5 : k * d = d * k := Int.mul_comm _ _
  omega

/-- multiples of both are multiples of the common step -/
theorem lcm_dvd {s1 s2 d x n : Int} (g : Gcd s1 s2 d x) (hs : 1 ≤ s1) (h1 : s1 ∣ n) (h2 : s2 ∣ n) : s1 / d * s2 ∣ n := by
  have d1 := g.pos hs
  obtain ⟨y, hy⟩ := g.z
  obtain ⟨a', ha'⟩ := g.da
  have e1 : s1 / d = a' := by
    exact Int.ediv_eq_of_eq_mul_right (by omega) ha'
  rw [e1]
  obtain ⟨i, hi⟩ := h1
  obtain ⟨j, hj⟩ := h2
  -- n d = n s1 x + n s2 y = s2 j s1 x + s1 i s2 y = s1 s2 (j x + i y) = d a' s2 (..)
  refine ⟨j * x + i * y, ?_⟩
  have f1 : n * d = n * (s1 * x) + n * (s2 * y) := by
    have := congrArg (fun t => n * t) hy
    simp only [Int.mul_add] at this
    exact this
  have f2 : n * (s1 * x) = d * (a' * s2 * (j * x)) := by
    have : n * (s1 * x) = s2 * j * (s1 * x) := congrArg (· * (s1 * x)) hj
    rw [this, ha']; simp only [Int.mul_comm, Int.mul_left_comm]
  have f3 : n * (s2 * y) = d * (a' * s2 * (i * y)) := by
    have : n * (s2 * y) = s1 * i * (s2 * y) := congrArg (· * (s2 * y)) hi
    rw [this, ha']; simp only [Int.mul_comm, Int.mul_left_comm]
  have f4 : d * n = d * (a' * s2 * (j * x + i * y)) := by
    rw [Int.mul_add, Int.mul_add, ← f2, ← f3, Int.mul_comm d n]; exact f1
  exact Int.eq_of_mul_eq_mul_left (by omega) f4

theorem lcm_facts {s1 s2 d x : Int} (g : Gcd s1 s2 d x) (hs : 1 ≤ s1) (hs2 : 1 ≤ s2) : 1 ≤ s1 / d * s2 ∧ s1 ∣ s1 / d * s2 ∧ s2 ∣ s1 / d * s2 ∧ 1 ≤ s1 / d ∧ s1 / d ≤ s1 := by
  have d1 := g.pos hs
  have q := quo_bd s1 d (by omega) d1
  obtain ⟨a', ha'⟩ := g.da
  obtain ⟨b', hb'⟩ := g.db
  have e1 : s1 / d = a' := by
    exact Int.ediv_eq_of_eq_mul_right (by omega) ha'
  have a1 : 1 ≤ a' := by
    by_cases c : 1 ≤ a'
    · exact c
    · have : d * a' ≤ d * 0 := Int.mul_le_mul_of_nonneg_left (by omega) (by omega)
      omega
  rw [e1] at q ⊢
  have p : 1 * 1 ≤ a' * s2 := Int.mul_le_mul a1 hs2 (by omega) (by omega)
  refine ⟨by omega, ⟨b', ?_⟩, Int.dvd_mul_left _ _, a1, q.2⟩
  have f : a' * s2 = a' * (d * b') := congrArg (a' * ·) hb'
  have f2 : s1 * b' = d * a' * b' := congrArg (· * b') ha'
  rw [f, f2]; simp only [Int.mul_comm, Int.mul_left_comm]

/-- the common numbers of two progressions -/
theorem common_mem {l1 h1 s1 l2 h2 s2 d x t L H n : Int} (g : Gcd s1 s2 d x) (hs : 1 ≤ s1) (hs2 : 1 ≤ s2) (hd : d ∣ l2 - l1) (ht : (s2 / d) ∣ (t - (l2 - l1) / d * x))
    (hL : L = max l1 l2 + (l1 + t * s1 - max l1 l2) % (s1 / d * s2)) (hH : H = min h1 h2 - (min h1 h2 - (l1 + t * s1)) % (s1 / d * s2)) :
    Mem L H (s1 / d * s2) n ↔ Mem l1 h1 s1 n ∧ Mem l2 h2 s2 n := by
  obtain ⟨mt1, mt2⟩ := meets g hs hd ht
  obtain ⟨p1, v1, v2, _, _⟩ := lcm_facts g hs hs2
  generalize hS : s1 / d * s2 = S at *
  generalize hM : l1 + t * s1 = M at *
  have hr0 := Int.emod_nonneg (M - max l1 l2) (show S ≠ 0 by omega)
  have hr1 := Int.emod_lt_of_pos (M - max l1 l2) (show 0 < S by omega)
  have hq0 := Int.emod_nonneg (min h1 h2 - M) (show S ≠ 0 by omega)
  have hq1 := Int.emod_lt_of_pos (min h1 h2 - M) (show 0 < S by omega)
  -- both ends differ from the meeting point by multiples
  have eL : S ∣ L - M := by
    have e : L - M = (M - max l1 l2) % S - (M - max l1 l2) := by omega
    rw [e, show (M - max l1 l2) % S - (M - max l1 l2) = -((M - max l1 l2) - (M - max l1 l2) % S) by omega]
    exact Int.dvd_neg.2 ⟨(M - max l1 l2) / S, by have := Int.mul_ediv_add_emod (M - max l1 l2) S; omega⟩
  have eH : S ∣ H - M := by
    have e : H - M = (min h1 h2 - M) - (min h1 h2 - M) % S := by omega
    rw [e]
    exact ⟨(min h1 h2 - M) / S, by have := Int.mul_ediv_add_emod (min h1 h2 - M) S; omega⟩
  constructor
  · rintro ⟨a1, a2, a3⟩
    have am : S ∣ n - M := by
      have := Int.dvd_add a3 eL
      rwa [show n - L + (L - M) = n - M by omega] at this
    refine ⟨⟨by omega, by omega, ?_⟩, ⟨by omega, by omega, ?_⟩⟩
    · have := Int.dvd_add (Int.dvd_trans v1 am) mt1
      rwa [show n - M + (M - l1) = n - l1 by omega] at this
    · have := Int.dvd_add (Int.dvd_trans v2 am) mt2
      rwa [show n - M + (M - l2) = n - l2 by omega] at this
  · rintro ⟨⟨a1, a2, a3⟩, ⟨b1, b2, b3⟩⟩
    have c1 : s1 ∣ n - M := by
      have := Int.dvd_sub a3 mt1
      rwa [show n - l1 - (M - l1) = n - M by omega] at this
    have c2 : s2 ∣ n - M := by
      have := Int.dvd_sub b3 mt2
      rwa [show n - l2 - (M - l2) = n - M by omega] at this
    have c3 : S ∣ n - M := by have := lcm_dvd g hs c1 c2; rwa [hS] at this
    have c4 : S ∣ n - L := by
      have := Int.dvd_sub c3 eL
      rwa [show n - M - (L - M) = n - L by omega] at this
    have c5 : S ∣ H - n := by
      have := Int.dvd_sub eH c3
      rwa [show H - M - (n - M) = H - n by omega] at this
    refine ⟨?_, ?_, c4⟩
    · -- n ≥ max, so n - L > -S
      obtain ⟨k, hk⟩ := c4
      have : -S < S * k := by omega
      by_cases k0 : 0 ≤ k
      · have := Int.mul_nonneg (show 0 ≤ S by omega) k0; omega
      · have : S * k ≤ S * (-1) := Int.mul_le_mul_of_nonneg_left (by omega) (by omega)
        omega
    · obtain ⟨k, hk⟩ := c5
      have : -S < S * k := by omega
      by_cases k0 : 0 ≤ k
      · have := Int.mul_nonneg (show 0 ≤ S by omega) k0; omega
      · have : S * k ≤ S * (-1) := Int.mul_le_mul_of_nonneg_left (by omega) (by omega)
        omega

theorem ends_dvd {A B M S L H : Int} (hL : L = A + (M - A) % S) (hH : H = B - (B - M) % S) : S ∣ H - L := by
  have e1 : S ∣ L - M := ⟨-((M - A) / S), by have := Int.mul_ediv_add_emod (M - A) S; rw [Int.mul_neg]; omega⟩
  have e2 : S ∣ H - M := ⟨(B - M) / S, by have := Int.mul_ediv_add_emod (B - M) S; omega⟩
  have := Int.dvd_sub e2 e1
  rwa [show H - M - (L - M) = H - L by omega] at this
end Go.Proofs.Ytdifilndpilboaa
