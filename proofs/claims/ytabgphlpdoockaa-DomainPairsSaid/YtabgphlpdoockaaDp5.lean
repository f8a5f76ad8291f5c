/-
  Part 5: PairM, AlgI, PairE, RefN, RefO.
-/
import Derived.Test.YtabgphlpdoockaaDp3
import Derived.Test.YtabgphlpdoockaaDp4
import Derived.BigQuiet
import Derived.Deep.DrawnRows
import Derived.Deep.QuietTactic
import Derived.Deep.RegionHeld3
import Derived.Lib.Hide
import Derived.WalkKit
import Derived.WalkLawsBesides
import Derived.WalkSpells
namespace Go.Proofs.Ytabgphlpdoockaa
open Go.RowKit
/-- two right ranges with the same numbers and the same direction -/
theorem canonS {l h s l' h' s' : Int} (hk : chk l h s = 0) (hk' : chk l' h' s' = 0) (hm : ∀ n, RMem l h s n ↔ RMem l' h' s' n) (hd : l < h → (s < 0 ↔ s' < 0)) : l = l' ∧ h = h' ∧ s = s' := by
  obtain ⟨e1, e2, _⟩ := canon hk hk' hm
  refine ⟨e1, e2, ?_⟩
  subst e1 e2
  rcases chk_zero hk with ⟨_, _, c⟩ | ⟨a1, a2, a3, a4, a5, a6, a7, a8, a9, a10⟩
  · rcases chk_zero hk' with ⟨_, _, c'⟩ | ⟨b1, b2, _⟩
    · rw [c, c']
    · omega
  · rcases chk_zero hk' with ⟨_, _, c'⟩ | ⟨b1, b2, b3, b4, b5, b6, b7, b8, b9, b10⟩
    · omega
    by_cases c : l = h
    · rw [a10 c, b10 c]
    · have c1 := (hm _).1 (rmem_next hk (by omega))
      have c2 := (hm _).2 (rmem_next hk' (by omega))
      obtain ⟨_, _, m, _⟩ := steps_a hk (show l ≤ h by omega)
      obtain ⟨_, _, m', _⟩ := steps_a hk' (show l ≤ h by omega)
      have d1 : magA s' ∣ magA s := by have := c1.2.2; rwa [show l + magA s - l = magA s by omega] at this
      have d2 : magA s ∣ magA s' := by have := c2.2.2; rwa [show l + magA s' - l = magA s' by omega] at this
      have q : magA s = magA s' := Int.le_antisymm (Int.le_of_dvd (by omega) d2) (Int.le_of_dvd (by omega) d1)
      have := hd (by omega)
      unfold magA at q
      split at q <;> split at q <;> omega
theorem EInv.ends {a b : Int} (hb2 : b ≤ 4000000) : ∀ (n : Nat) (r0 x0 r1 x1 : Int), EInv a b r0 x0 r1 x1 → r1.toNat ≤ n → ∃ d x, Gcd a b d x
  | n, r0, x0, r1, x1, hi, hn => by
    by_cases hz : r1 = 0
    · subst hz; exact ⟨_, _, hi.done⟩
    · obtain ⟨s1, s2⟩ := hi.step hb2 hz
      have n1 := hi.n1
      match n, hn with
      | 0, hn => omega
      | n + 1, hn => exact EInv.ends hb2 n _ _ _ _ s1 (by have := s1.n1; omega)
theorem gcdI_gcd (a b : Int) (ha : 0 ≤ a) (hb : 0 ≤ b) (ha2 : a ≤ 4000000) (hb2 : b ≤ 4000000) : ∃ x, Gcd a b (gcdI a b) x := by
  obtain ⟨d, x, g⟩ := EInv.ends hb2 _ _ _ _ _ (EInv.start a b ha hb ha2 hb2) (Nat.le_refl _)
  have e : d = gcdI a b := Int.dvd_antisymm g.n (Int.natCast_nonneg _) (Int.dvd_coe_gcd g.da g.db) (g.all (Int.gcd_dvd_left _ _) (Int.gcd_dvd_right _ _))
  exact ⟨x, e ▸ g⟩
/-- the first number of a progression from a bound on -/
theorem first_ge {l low s f : Int} (hs : 1 ≤ s) (_hl : l ≤ low) (hf : f = l + (low - l + s - 1) / s * s) : s ∣ f - l ∧ low ≤ f ∧ f ≤ low + s - 1 ∧ ∀ n, low ≤ n → s ∣ n - l → f ≤ n := by
  have e := Int.mul_ediv_add_emod (low - l + s - 1) s
  have r0 := Int.emod_nonneg (low - l + s - 1) (show s ≠ 0 by omega)
  have r1 := Int.emod_lt_of_pos (low - l + s - 1) (show 0 < s by omega)
  rw [Int.mul_comm] at e
  refine ⟨⟨(low - l + s - 1) / s, by rw [Int.mul_comm]; omega⟩, by omega, by omega, ?_⟩
  rintro n hn ⟨k, hk⟩
  have q : (low - l + s - 1) / s ≤ k := by
    refine Int.le_of_lt_add_one (Int.ediv_lt_of_lt_mul (by omega) ?_)
    rw [Int.add_mul, Int.mul_comm k]
    omega
  have := Int.mul_le_mul_of_nonneg_right q (show 0 ≤ s by omega)
  rw [Int.mul_comm k] at this
  omega
/-- no common number: the least would not be the least -/
theorem no_common {l1 h1 s1 l2 h2 s2 f : Int} (hs1 : 1 ≤ s1) (hs2 : 1 ≤ s2) (a : l1 ≤ f) (b : l2 ≤ f) (c : ∀ n, Mem l1 h1 s1 n → Mem l2 h2 s2 n → f + s2 * s1 ≤ n) :
    ∀ (m : Nat) (n : Int), (n - f).toNat ≤ m → Mem l1 h1 s1 n → Mem l2 h2 s2 n → False
  | m, n, hm, m1, m2 => by
    have p : 1 * 1 ≤ s2 * s1 := Int.mul_le_mul hs2 hs1 (by omega) (by omega)
    have hc := c n m1 m2
    have u1 := m1.2.1
    have u2 := m2.2.1
    match m, hm with
    | 0, hm => omega
    | m + 1, hm =>
      refine no_common hs1 hs2 a b c m (n - s2 * s1) (by omega) ⟨by omega, by omega, ?_⟩ ⟨by omega, by omega, ?_⟩
      · have := Int.dvd_sub m1.2.2 (Int.dvd_mul_left s2 s1)
        rwa [show n - l1 - s2 * s1 = n - s2 * s1 - l1 by omega] at this
      · have := Int.dvd_sub m2.2.2 (Int.dvd_mul_right s2 s1)
        rwa [show n - l2 - s2 * s1 = n - s2 * s1 - l2 by omega] at this
/-- the range from the first common number on -/
theorem common_from {l1 h1 s1 l2 h2 s2 d x f H : Int} (g : Gcd s1 s2 d x) (hs : 1 ≤ s1) (hs2 : 1 ≤ s2) (m1 : Mem l1 h1 s1 f) (m2 : Mem l2 h2 s2 f) (c : ∀ n, Mem l1 h1 s1 n → Mem l2 h2 s2 n → f ≤ n)
    (hH : H = f + (min h1 h2 - f) / (s1 / d * s2) * (s1 / d * s2)) : f ≤ H ∧ H ≤ min h1 h2 ∧ s1 / d * s2 ∣ H - f ∧ ∀ n, Mem f H (s1 / d * s2) n ↔ Mem l1 h1 s1 n ∧ Mem l2 h2 s2 n := by
  obtain ⟨p1, v1, v2, _, _⟩ := lcm_facts g hs hs2
  have lcm := fun n => lcm_dvd (n := n) g hs
  generalize hS : s1 / d * s2 = S at *
  obtain ⟨a1, a2, a3⟩ := m1
  obtain ⟨b1, b2, b3⟩ := m2
  have e := Int.mul_ediv_add_emod (min h1 h2 - f) S
  have r0 := Int.emod_nonneg (min h1 h2 - f) (show S ≠ 0 by omega)
  have r1 := Int.emod_lt_of_pos (min h1 h2 - f) (show 0 < S by omega)
  have q0 : 0 ≤ (min h1 h2 - f) / S := Int.ediv_nonneg (by omega) (by omega)
  have q1 := Int.mul_nonneg q0 (show 0 ≤ S by omega)
  rw [Int.mul_comm] at e
  refine ⟨by omega, by omega, ⟨(min h1 h2 - f) / S, by rw [Int.mul_comm]; omega⟩, fun n => ⟨?_, ?_⟩⟩
  · rintro ⟨n1, n2, n3⟩
    refine ⟨⟨by omega, by omega, ?_⟩, ⟨by omega, by omega, ?_⟩⟩
    · have := Int.dvd_add (Int.dvd_trans v1 n3) a3
      rwa [show n - f + (f - l1) = n - l1 by omega] at this
    · have := Int.dvd_add (Int.dvd_trans v2 n3) b3
      rwa [show n - f + (f - l2) = n - l2 by omega] at this
  · rintro ⟨n1, n2⟩
    have := c n n1 n2
    have k1 : s1 ∣ n - f := by
      have := Int.dvd_sub n1.2.2 a3
      rwa [show n - l1 - (f - l1) = n - f by omega] at this
    have k2 : s2 ∣ n - f := by
      have := Int.dvd_sub n2.2.2 b3
      rwa [show n - l2 - (f - l2) = n - f by omega] at this
    have k3 := lcm _ k1 k2
    refine ⟨by omega, ?_, k3⟩
    obtain ⟨k, hk⟩ := k3
    have u1 := n1.2.1
    have u2 := n2.2.1
    have : k ≤ (min h1 h2 - f) / S := by
      refine (Int.le_ediv_iff_mul_le (by omega)).2 ?_
      rw [Int.mul_comm]; omega
    have := Int.mul_le_mul_of_nonneg_right this (show 0 ≤ S by omega)
    rw [Int.mul_comm k] at this
    omega
end Go.Proofs.Ytabgphlpdoockaa
namespace Go.Proofs.Ytabgphlpdoockaa
open Go.RowKit
/-- the two boxes of a call with two ranges, behind a call -/
theorem pair6 {w w1 : World} {t : TypeId} {a b c a' b' c' : Value} (hb : Below ((w.alloc (.cells #[a, b, c] t)).alloc (.cells #[a', b', c'] t)).heap.size ((w.alloc (.cells #[a, b, c] t)).alloc (.cells #[a', b', c'] t)) w1) :
    Hid (Below w.heap.size w w1) ∧ w.heap.size + 1 < w1.heap.size ∧ (w1.cell? ⟨w.heap.size, 0, none⟩ = some a ∧ w1.cell? ⟨w.heap.size, 1, none⟩ = some b ∧ w1.cell? ⟨w.heap.size, 2, none⟩ = some c) ∧
      (w1.cell? ⟨w.heap.size + 1, 0, none⟩ = some a' ∧ w1.cell? ⟨w.heap.size + 1, 1, none⟩ = some b' ∧ w1.cell? ⟨w.heap.size + 1, 2, none⟩ = some c') := by
  obtain ⟨W, z, x, y, _⟩ := res2 hb
  exact ⟨W, z, x, y⟩
set_option maxHeartbeats 800000 in
theorem checkBoth_ok (l1 h1 s1 l2 h2 s2 : Int) (w : World) (hA : Hid (chk l1 h1 s1 = 0)) (hB : Hid (chk l2 h2 s2 = 0)) :
    Calls Try.prog 126 #[.agg #[.int .i64 l1, .int .i64 h1, .int .i64 s1], .agg #[.int .i64 l2, .int .i64 h2, .int .i64 s2]] w fun e w' => e = .returned (.int .i64 0) ∧ Below w.heap.size w w' := by
  have bA := chk_bounds hA.out
  have bB := chk_bounds hB.out
  go_enter Try.func126, Try.ntmps126
  go_wp2_with fail
  refine (check_ok _ _ _ _ ⟨by omega, by omega⟩ ⟨by omega, by omega⟩ ⟨by omega, by omega⟩ hA).mono ?_
  rintro e w1 ⟨rfl, hb1⟩
  obtain ⟨W1, z1, ⟨x0, x1, x2⟩, ⟨y0, y1, y2⟩⟩ := pair6 hb1
  clear hb1 x0 x1 x2
  go_wp2_with fail
  refine (check_ok _ _ _ _ ⟨by omega, by omega⟩ ⟨by omega, by omega⟩ ⟨by omega, by omega⟩ hB).mono ?_
  rintro e w2 ⟨rfl, hb2⟩
  have W2 := hidTrans W1 hb2 (by omega)
  clear hb2
  go_wp2
  go_ret
  exact ⟨rfl, W2.out⟩
/-- what Intersect returns, with the direction -/
def InterDir (l1 h1 s1 l2 h2 s2 : Int) (w : World) : Ending → World → Prop := fun e w' => ∃ l h s : Int, (chk l h s = 0 ∧ (∀ n, RMem l h s n ↔ RMem l1 h1 s1 n ∧ RMem l2 h2 s2 n) ∧ (l < h → (s < 0 ↔ s1 < 0))) ∧ e = .returned (.tuple #[.agg #[.int .i64 l, .int .i64 h, .int .i64 s], .int .i64 0]) ∧ Below w.heap.size w w'
theorem nS_dir {L H S s1 : Int} {dn : Bool} (hS : 1 ≤ S) (hd : L ≤ H → dn = decide (s1 < 0)) : nL L H < nH L H → (nS L H S dn < 0 ↔ s1 < 0) := by
  unfold nL nH nS
  by_cases c : H < L
  · rw [if_pos c, if_pos c]; omega
  · rw [if_neg c, if_neg c, if_neg c]
    intro lt
    rw [if_neg (by omega), hd (by omega)]
    by_cases d : s1 < 0
    · rw [if_pos (by simpa using d)]; omega
    · rw [if_neg (by simpa using d)]; omega
/-- the normal range of the common numbers -/
theorem inter_norm {l1 h1 s1 l2 h2 s2 L H S : Int} {dn : Bool} (hA : chk l1 h1 s1 = 0) (_hB : chk l2 h2 s2 = 0) (c : Common l1 h1 (magA s1) l2 h2 (magA s2) L H S) :
    chk (nL L H) (nH L H) (nS L H S dn) = 0 ∧ ∀ n, RMem (nL L H) (nH L H) (nS L H S dn) n ↔ RMem l1 h1 s1 n ∧ RMem l2 h2 s2 n := by
  obtain ⟨c1, c2, c3, c4, c5, c6, c7, c8⟩ := c
  by_cases ov : H < L
  · have e1 : nL L H = 1 := if_pos ov
    have e2 : nH L H = 0 := if_pos ov
    have e3 : nS L H S dn = 1 := if_pos ov
    rw [e1, e2, e3]
    refine ⟨by decide, fun n => ⟨fun hm => absurd hm (rmem_none (by omega)), fun hm => ?_⟩⟩
    have := (c8 n).2 hm
    have := this.1; have := ((c8 n).2 hm).2.1
    omega
  · have hd := c7 (by omega)
    have mL := (c8 L).1 ⟨by omega, by omega, by rw [Int.sub_self]; exact Int.dvd_zero _⟩
    have mH := (c8 H).1 ⟨by omega, by omega, hd⟩
    have bA := chk_bounds hA
    have bl := mL.1.1
    have bh := mH.1.2.1
    have hc := chk_nrm L H S dn (by omega) c1 (Int.emod_eq_zero_of_dvd hd)
    rw [if_neg (by omega)] at hc
    refine ⟨hc, fun n => ?_⟩
    have e1 : nL L H = L := if_neg ov
    have e2 : nH L H = H := if_neg ov
    unfold RMem
    rw [← c8 n, e1, e2]
    by_cases eq : L = H
    · have e3 : nS L H S dn = 1 := by unfold nS; rw [if_neg ov, if_pos eq]
      rw [e3]
      constructor
      · intro hm
        have := hm.1; have := hm.2.1
        exact ⟨by omega, by omega, by rw [show n - L = 0 by omega]; exact Int.dvd_zero _⟩
      · intro hm
        exact ⟨hm.1, hm.2.1, Int.one_dvd _⟩
    · have e3 : magA (nS L H S dn) = S := by
        unfold nS; rw [if_neg ov, if_neg eq]
        cases dn
        · rw [if_neg (by simp)]; exact magA_pos (by omega)
        · rw [if_pos rfl, magA_neg (by omega), Int.neg_neg]
      rw [e3]
/-- the two boxes and the result's block, behind a call -/
theorem res33 {w w1 : World} {t : TypeId} {a b c a' b' c' p q r : Value} (hb : Below (((w.alloc (.cells #[a, b, c] t)).alloc (.cells #[a', b', c'] t)).alloc (.cells #[p, q, r] t)).heap.size (((w.alloc (.cells #[a, b, c] t)).alloc (.cells #[a', b', c'] t)).alloc (.cells #[p, q, r] t)) w1) :
    Hid (Below w.heap.size w w1) ∧ w.heap.size + 1 + 1 < w1.heap.size ∧ (w1.cell? ⟨w.heap.size, 0, none⟩ = some a ∧ w1.cell? ⟨w.heap.size, 1, none⟩ = some b ∧ w1.cell? ⟨w.heap.size, 2, none⟩ = some c) ∧
      (w1.cell? ⟨w.heap.size + 1, 0, none⟩ = some a' ∧ w1.cell? ⟨w.heap.size + 1, 1, none⟩ = some b' ∧ w1.cell? ⟨w.heap.size + 1, 2, none⟩ = some c') ∧
      (w1.cell? ⟨w.heap.size + 1 + 1, 0, none⟩ = some p ∧ w1.cell? ⟨w.heap.size + 1 + 1, 1, none⟩ = some q ∧ w1.cell? ⟨w.heap.size + 1 + 1, 2, none⟩ = some r) ∧
      (w1.frozen? ⟨w.heap.size + 1 + 1, 0, none⟩ = false ∧ w1.frozen? ⟨w.heap.size + 1 + 1, 1, none⟩ = false ∧ w1.frozen? ⟨w.heap.size + 1 + 1, 2, none⟩ = false) := by
  have hs : w.heap.size + 1 + 1 < (((w.alloc (.cells #[a, b, c] t)).alloc (.cells #[a', b', c'] t)).alloc (.cells #[p, q, r] t)).heap.size := by simp
  have hs0 : w.heap.size < (((w.alloc (.cells #[a, b, c] t)).alloc (.cells #[a', b', c'] t)).alloc (.cells #[p, q, r] t)).heap.size := by simp <;> omega
  have hs1 : w.heap.size + 1 < (((w.alloc (.cells #[a, b, c] t)).alloc (.cells #[a', b', c'] t)).alloc (.cells #[p, q, r] t)).heap.size := by simp <;> omega
  refine ⟨((((Below.refl _ _).alloc (Nat.le_refl _) _).alloc (by simp) _).alloc (by simp; omega) _).trans (hb.mono (by omega)), Nat.lt_of_lt_of_le hs hb.size, ⟨?_, ?_, ?_⟩, ⟨?_, ?_, ?_⟩, ⟨?_, ?_, ?_⟩, ?_, ?_, ?_⟩
  · rw [hb.cell (p := ⟨w.heap.size, 0, none⟩) hs0]; simp [go_sem]
  · rw [hb.cell (p := ⟨w.heap.size, 1, none⟩) hs0]; simp [go_sem]
  · rw [hb.cell (p := ⟨w.heap.size, 2, none⟩) hs0]; simp [go_sem]
  · rw [hb.cell (p := ⟨w.heap.size + 1, 0, none⟩) hs1]; simp [go_sem]
  · rw [hb.cell (p := ⟨w.heap.size + 1, 1, none⟩) hs1]; simp [go_sem]
  · rw [hb.cell (p := ⟨w.heap.size + 1, 2, none⟩) hs1]; simp [go_sem]
  · rw [hb.cell (p := ⟨w.heap.size + 1 + 1, 0, none⟩) hs]; simp [go_sem]
  · rw [hb.cell (p := ⟨w.heap.size + 1 + 1, 1, none⟩) hs]; simp [go_sem]
  · rw [hb.cell (p := ⟨w.heap.size + 1 + 1, 2, none⟩) hs]; simp [go_sem]
  · rw [hb.frozen (p := ⟨w.heap.size + 1 + 1, 0, none⟩) hs]; simp [go_sem]
  · rw [hb.frozen (p := ⟨w.heap.size + 1 + 1, 1, none⟩) hs]; simp [go_sem]
  · rw [hb.frozen (p := ⟨w.heap.size + 1 + 1, 2, none⟩) hs]; simp [go_sem]
set_option maxHeartbeats 3200000 in
theorem Intersect_dir (l1 h1 s1 l2 h2 s2 : Int) (w : World) (hA : Hid (chk l1 h1 s1 = 0)) (hB : Hid (chk l2 h2 s2 = 0)) :
    Calls Try.prog 43 #[.agg #[.int .i64 l1, .int .i64 h1, .int .i64 s1], .agg #[.int .i64 l2, .int .i64 h2, .int .i64 s2]] w (InterDir l1 h1 s1 l2 h2 s2 w) := by
  have bA := chk_bounds hA.out
  have bB := chk_bounds hB.out
  have hne : ¬ w.heap.size = w.heap.size + 1 + 1 := by omega
  have hne' : ¬ w.heap.size + 1 + 1 = w.heap.size := by omega
  go_enter Try.func43, Try.ntmps43
  go_wp2_with fail
  refine (checkBoth_ok _ _ _ _ _ _ _ hA hB).mono ?_
  rintro e w1 ⟨rfl, hb1⟩
  obtain ⟨W1, z1, ⟨x0, x1, x2⟩, ⟨y0, y1, y2⟩, r, f⟩ := res33 hb1
  have G1 := Lib.hid (And.intro r f)
  clear hb1 r f
  go_wp2_with fail
  refine wp_region_held_drew (S := (fun w' => w'.cell? ⟨w.heap.size, 0, none⟩ = some (.int .i64 l1) ∧ w'.cell? ⟨w.heap.size, 1, none⟩ = some (.int .i64 h1) ∧ w'.cell? ⟨w.heap.size, 2, none⟩ = some (.int .i64 s1) ∧ w'.cell? ⟨w.heap.size + 1, 0, none⟩ = some (.int .i64 l2) ∧ w'.cell? ⟨w.heap.size + 1, 1, none⟩ = some (.int .i64 h2) ∧ w'.cell? ⟨w.heap.size + 1, 2, none⟩ = some (.int .i64 s2))) (by kernel_rfl) ?_ (fun hHeld => ?_)
  · first | exact ⟨x0, x1, x2, y0, y1, y2⟩ | exact hHeld | (simp [go_sem, *]; done) | go_keep
  refine wpAnyH_take (i := 0) (oi := { dst := some 14, op := Op.load 23 (Operand.tmp 2), type := 23, pos := "sets.go:13", after := #[], guard := none }) (v := ?_) rfl (by kernel_rfl) (by kernel_rfl) (by kernel_rfl) (fun _ _ _ h => h) (Or.inl ⟨by rfl, ?_⟩) (by assumption) ?_
  rotate_left
  · (intro w hSw; (try dsimp only at hSw); go_simp; first | done | with_reducible rfl)
  try simp only [Act.put, List.setIfInBounds_toArray, List.set_cons_zero, List.set_cons_succ]
  refine wpAnyH_take (i := 2) (oi := { dst := some 16, op := Op.load 23 (Operand.tmp 3), type := 23, pos := "sets.go:13", after := #[], guard := none }) (v := ?_) rfl (by kernel_rfl) (by kernel_rfl) (by kernel_rfl) (fun _ _ _ h => h) (Or.inl ⟨by rfl, ?_⟩) (by assumption) ?_
  rotate_left
  · (intro w hSw; (try dsimp only at hSw); go_simp; first | done | with_reducible rfl)
  try simp only [Act.put, List.setIfInBounds_toArray, List.set_cons_zero, List.set_cons_succ]
  refine wpAnyH_ready (rs := [1]) (by kernel_rfl) (by simp) ?_
  refine AllReadyH.cons (o := { dst := some 15, op := Op.call { callee := Callee.value (Operand.func 109), args := #[Operand.tmp 14], argTypes := #[23] }, type := 102, pos := "sets.go:13", after := #[{ on := 0, ground := Ground.data }], guard := none }) rfl (fun K hK => ?_) AllReadyH.nil
  go_simp
  refine (open_any _ _ _ _ (by omega) (by omega)).mono ?_
  rintro e w2 ⟨rfl, hb2⟩
  have z2' : w1.heap.size ≤ w2.heap.size := hb2.size
  have G2 := Lib.hid (keepF (show Below w1.heap.size w1 w2 from ⟨hb2.os, hb2.tape, hb2.output, hb2.size, hb2.block⟩) (by omega) G1.out.1 G1.out.2)
  go_wp2_with fail
  refine hK.out _ _ ?_ (fun hHeld1 => ?_)
  · (obtain ⟨q0, q1, q2, q3, q4, q5⟩ := hHeld; exact ⟨(hb2.cell (p := ⟨w.heap.size, 0, none⟩) (by simp; omega)).trans q0, (hb2.cell (p := ⟨w.heap.size, 1, none⟩) (by simp; omega)).trans q1, (hb2.cell (p := ⟨w.heap.size, 2, none⟩) (by simp; omega)).trans q2, (hb2.cell (p := ⟨w.heap.size + 1, 0, none⟩) (by simp; omega)).trans q3, (hb2.cell (p := ⟨w.heap.size + 1, 1, none⟩) (by simp; omega)).trans q4, (hb2.cell (p := ⟨w.heap.size + 1, 2, none⟩) (by simp; omega)).trans q5⟩)
  clear hK K hHeld
  have hHeld := hHeld1
  clear hHeld1
  try simp only [Act.put, List.setIfInBounds_toArray, List.set_cons_zero, List.set_cons_succ]
  refine wpAnyH_ready (rs := [3]) (by kernel_rfl) (by simp) ?_
  refine AllReadyH.cons (o := { dst := some 17, op := Op.call { callee := Callee.value (Operand.func 109), args := #[Operand.tmp 16], argTypes := #[23] }, type := 102, pos := "sets.go:13", after := #[{ on := 2, ground := Ground.data }, { on := 1, ground := Ground.chain }], guard := none }) rfl (fun K hK => ?_) AllReadyH.nil
  go_simp
  refine (open_any _ _ _ _ (by omega) (by omega)).mono ?_
  rintro e w3 ⟨rfl, hb3⟩
  have z3' : w2.heap.size ≤ w3.heap.size := hb3.size
  have G3 := Lib.hid (keepF (show Below w2.heap.size w2 w3 from ⟨hb3.os, hb3.tape, hb3.output, hb3.size, hb3.block⟩) (by omega) G2.out.1 G2.out.2)
  go_wp2_with fail
  refine hK.out _ _ ?_ (fun hHeld3 => ?_)
  · (obtain ⟨q0, q1, q2, q3, q4, q5⟩ := hHeld; exact ⟨(hb3.cell (p := ⟨w.heap.size, 0, none⟩) (by simp; omega)).trans q0, (hb3.cell (p := ⟨w.heap.size, 1, none⟩) (by simp; omega)).trans q1, (hb3.cell (p := ⟨w.heap.size, 2, none⟩) (by simp; omega)).trans q2, (hb3.cell (p := ⟨w.heap.size + 1, 0, none⟩) (by simp; omega)).trans q3, (hb3.cell (p := ⟨w.heap.size + 1, 1, none⟩) (by simp; omega)).trans q4, (hb3.cell (p := ⟨w.heap.size + 1, 2, none⟩) (by simp; omega)).trans q5⟩)
  clear hK K hHeld
  have hHeld := hHeld3
  clear hHeld3
  try simp only [Act.put, List.setIfInBounds_toArray, List.set_cons_zero, List.set_cons_succ]
  refine wpAnyH_ready (rs := [4]) (by kernel_rfl) (by simp) ?_
  refine AllReadyH.cons (o := { dst := some 18, op := Op.call { callee := Callee.value (Operand.func 127), args := #[Operand.tmp 15, Operand.tmp 17], argTypes := #[102, 102] }, type := 102, pos := "sets.go:13", after := #[{ on := 1, ground := Ground.data }, { on := 3, ground := Ground.data }, { on := 3, ground := Ground.chain }], guard := none }) rfl (fun K hK => ?_) AllReadyH.nil
  go_simp
  refine (common_dir _ _ _ _ _ _ _ _ _ bA.1 bA.2.1 bA.2.2.1 bA.2.2.2.1 bA.2.2.2.2.2.2.1 bA.2.2.2.2.2.2.2 bB.1 bB.2.1 bB.2.2.1 bB.2.2.2.1 bB.2.2.2.2.2.2.1 bB.2.2.2.2.2.2.2).mono ?_
  rintro e w4 ⟨L, H, S, dn, hC, rfl, hb4⟩
  have HC := Lib.hid hC
  have cS1 := hC.1.1
  have cS2 := hC.1.2.1
  clear hC
  have z4' : w3.heap.size ≤ w4.heap.size := hb4.size
  have G4 := Lib.hid (keepF (show Below w3.heap.size w3 w4 from ⟨hb4.os, hb4.tape, hb4.output, hb4.size, hb4.block⟩) (by omega) G3.out.1 G3.out.2)
  go_wp2_with fail
  refine hK.out _ _ ?_ (fun hHeld4 => ?_)
  · (obtain ⟨q0, q1, q2, q3, q4, q5⟩ := hHeld; exact ⟨(hb4.cell (p := ⟨w.heap.size, 0, none⟩) (by simp; omega)).trans q0, (hb4.cell (p := ⟨w.heap.size, 1, none⟩) (by simp; omega)).trans q1, (hb4.cell (p := ⟨w.heap.size, 2, none⟩) (by simp; omega)).trans q2, (hb4.cell (p := ⟨w.heap.size + 1, 0, none⟩) (by simp; omega)).trans q3, (hb4.cell (p := ⟨w.heap.size + 1, 1, none⟩) (by simp; omega)).trans q4, (hb4.cell (p := ⟨w.heap.size + 1, 2, none⟩) (by simp; omega)).trans q5⟩)
  clear hK K hHeld
  have hHeld := hHeld4
  clear hHeld4
  try simp only [Act.put, List.setIfInBounds_toArray, List.set_cons_zero, List.set_cons_succ]
  refine wpAnyH_ready (rs := [5]) (by kernel_rfl) (by simp) ?_
  refine AllReadyH.cons (o := { dst := some 19, op := Op.call { callee := Callee.value (Operand.func 105), args := #[Operand.tmp 18], argTypes := #[102] }, type := 23, pos := "sets.go:13", after := #[{ on := 4, ground := Ground.data }, { on := 4, ground := Ground.chain }], guard := none }) rfl (fun K hK => ?_) AllReadyH.nil
  go_simp
  refine (normal_any _ _ _ _ _ (by omega) (by omega)).mono ?_
  rintro e w5 ⟨rfl, hb5⟩
  have z5' : w4.heap.size ≤ w5.heap.size := hb5.size
  have G5 := Lib.hid (keepF (show Below w4.heap.size w4 w5 from ⟨hb5.os, hb5.tape, hb5.output, hb5.size, hb5.block⟩) (by omega) G4.out.1 G4.out.2)
  obtain ⟨⟨g0, g1, g2⟩, f0, f1, f2⟩ := G5.out
  go_wp2_with fail
  refine hK.out _ _ ?_ (fun hHeld5 => ?_)
  · (obtain ⟨q0, q1, q2, q3, q4, q5⟩ := hHeld; exact ⟨(hb5.cell (p := ⟨w.heap.size, 0, none⟩) (by simp; omega)).trans q0, (hb5.cell (p := ⟨w.heap.size, 1, none⟩) (by simp; omega)).trans q1, (hb5.cell (p := ⟨w.heap.size, 2, none⟩) (by simp; omega)).trans q2, (hb5.cell (p := ⟨w.heap.size + 1, 0, none⟩) (by simp; omega)).trans q3, (hb5.cell (p := ⟨w.heap.size + 1, 1, none⟩) (by simp; omega)).trans q4, (hb5.cell (p := ⟨w.heap.size + 1, 2, none⟩) (by simp; omega)).trans q5⟩)
  clear hK K hHeld
  have hHeld := hHeld5
  clear hHeld5
  try simp only [Act.put, List.setIfInBounds_toArray, List.set_cons_zero, List.set_cons_succ]
  refine wpAnyH_ready (rs := [6]) (by kernel_rfl) (by simp) ?_
  refine AllReadyH.cons (o := { dst := none, op := Op.store 23 (Operand.tmp 4) (Operand.tmp 19), type := 0, pos := "sets.go:13", after := #[{ on := 5, ground := Ground.data }, { on := 5, ground := Ground.chain }, { on := 0, ground := Ground.phase }, { on := 1, ground := Ground.phase }, { on := 2, ground := Ground.phase }, { on := 3, ground := Ground.phase }, { on := 4, ground := Ground.phase }, { on := 5, ground := Ground.phase }], guard := none }) rfl (fun K hK => ?_) AllReadyH.nil
  go_simp
  refine hK.out _ _ ?_ (fun hHeld6 => ?_)
  · first | exact ⟨x0, x1, x2, y0, y1, y2⟩ | exact hHeld | (simp [go_sem, *]; done) | go_keep
  clear hK K hHeld
  have hHeld := hHeld6
  clear hHeld6
  try simp only [Act.put, List.setIfInBounds_toArray, List.set_cons_zero, List.set_cons_succ]
  refine wpAnyH_take (i := 7) (oi := { dst := some 5, op := Op.assign (Operand.const (Value.int IntKind.i64 0)), type := 24, pos := "sets.go:13", after := #[{ on := 6, ground := Ground.chain }, { on := 0, ground := Ground.phase }, { on := 1, ground := Ground.phase }, { on := 2, ground := Ground.phase }, { on := 3, ground := Ground.phase }, { on := 4, ground := Ground.phase }, { on := 5, ground := Ground.phase }, { on := 6, ground := Ground.phase }], guard := none }) (v := ?_) rfl (by kernel_rfl) (by kernel_rfl) (by kernel_rfl) (fun _ _ _ h => h) (Or.inl ⟨by rfl, ?_⟩) (by assumption) ?_
  rotate_left
  · (intro w hSw; (try dsimp only at hSw); go_simp; first | done | with_reducible rfl)
  try simp only [Act.put, List.setIfInBounds_toArray, List.set_cons_zero, List.set_cons_succ]
  refine wpAnyH_done (by kernel_rfl) ?_ _
  have Wa := W1.out.drew.trans (hb2.mono (by simp; omega))
  have Wa := Wa.trans (hb3.mono (by omega))
  have Wa := Wa.trans (hb4.mono (by omega))
  have Wa := Wa.trans (hb5.mono (by omega))
  have W := Lib.hid Wa
  clear Wa hHeld hb2 hb3 hb4 hb5 W1
  go_wp2
  refine bodyPost_ret (v := .tuple #[.agg #[.int .i64 (nL L H), .int .i64 (nH L H), .int .i64 (nS L H S dn)], .int .i64 0]) (by simp [results, Try.results43, go_sem, *]) rfl ⟨_, _, _, ⟨(inter_norm hA.out hB.out HC.out.1).1, (inter_norm hA.out hB.out HC.out.1).2, nS_dir cS1 HC.out.2⟩, rfl, ?_⟩
  repeat (first | exact W.out | refine Below.setCell ?_ (by simp; try omega) _)
end Go.Proofs.Ytabgphlpdoockaa
namespace Go.Proofs.Ytabgphlpdoockaa
open Go.RowKit
set_option maxHeartbeats 800000 in
theorem refIntersect_none1 (l2 h2 s2 : Int) (w : World) (hB : Hid (chk l2 h2 s2 = 0)) :
    Calls Try.prog 44 #[.agg #[.int .i64 1, .int .i64 0, .int .i64 1], .agg #[.int .i64 l2, .int .i64 h2, .int .i64 s2]] w fun e w' => e = .returned (.tuple #[.agg #[.int .i64 1, .int .i64 0, .int .i64 1], .int .i64 0]) ∧ Below w.heap.size w w' := by
  have hA : Hid (chk 1 0 1 = 0) := Lib.hid (by decide)
  have e0 : reqB 1 0 1 1 0 1 = true := by decide
  go_enter Try.func44, Try.ntmps44
  go_wp2_with fail
  refine (refCheck_ok _ _ _ _ hA).mono ?_
  rintro e w1 ⟨rfl, hb1⟩
  obtain ⟨W1, z1, ⟨x0, x1, x2⟩, ⟨y0, y1, y2⟩, ⟨r0, r1, r2⟩, f0, f1, f2⟩ := res33 hb1
  clear hb1
  go_wp2_with fail
  refine (refCheck_ok _ _ _ _ hB).mono ?_
  rintro e w2 ⟨rfl, hb2⟩
  have W2 := hidTrans W1 hb2 (by omega)
  obtain ⟨⟨q0, q1, q2⟩, p0, p1, p2⟩ := keepF hb2 z1 ⟨r0, r1, r2⟩ ⟨f0, f1, f2⟩
  obtain ⟨_, u0, u1, u2⟩ := keep3 (B := w.heap.size) hb2 (by omega) x0 x1 x2
  obtain ⟨_, v0, v1, v2⟩ := keep3 (B := w.heap.size + 1) hb2 (by omega) y0 y1 y2
  have z2 := Nat.lt_of_lt_of_le z1 hb2.size
  clear hb2 y0 y1 y2 r0 r1 r2 f0 f1 f2 x0 x1 x2 W1 z1
  go_wp2_with fail
  refine (refIsEmpty_any _ _ _ _).mono ?_
  rintro e w3 ⟨rfl, hb3⟩
  have W3 := hidTrans W2 hb3 (by omega)
  obtain ⟨⟨r0, r1, r2⟩, f0, f1, f2⟩ := keepF hb3 z2 ⟨q0, q1, q2⟩ ⟨p0, p1, p2⟩
  obtain ⟨_, y0, y1, y2⟩ := keep3 (B := w.heap.size + 1) hb3 (by omega) v0 v1 v2
  have z3 := Nat.lt_of_lt_of_le z2 hb3.size
  clear hb3 q0 q1 q2 p0 p1 p2 u0 u1 u2 v0 v1 v2 W2 z2
  go_wp2_with fail
  refine (refEmpty_any _).mono ?_
  rintro e w' ⟨rfl, rfl⟩
  go_wp2_with fail
  refine bodyPost_ret (v := .tuple #[.agg #[.int .i64 1, .int .i64 0, .int .i64 1], .int .i64 0]) (by simp [results, Try.results44, go_sem, *]) rfl ⟨rfl, ?_⟩
  repeat (first | exact W3.out | refine Below.alloc ?_ (by simp [World.setCell]; omega) _ | refine Below.setCell ?_ (by simp; try omega) _)
set_option maxHeartbeats 800000 in
theorem refIntersect_none2 (l1 h1 s1 : Int) (w : World) (hA : Hid (chk l1 h1 s1 = 0)) (hle : l1 ≤ h1) :
    Calls Try.prog 44 #[.agg #[.int .i64 l1, .int .i64 h1, .int .i64 s1], .agg #[.int .i64 1, .int .i64 0, .int .i64 1]] w fun e w' => e = .returned (.tuple #[.agg #[.int .i64 1, .int .i64 0, .int .i64 1], .int .i64 0]) ∧ Below w.heap.size w w' := by
  have hB : Hid (chk 1 0 1 = 0) := Lib.hid (by decide)
  have e1 : reqB l1 h1 s1 1 0 1 = false := by unfold reqB; simp; omega
  have e0 : reqB 1 0 1 1 0 1 = true := by decide
  clear hle
  go_enter Try.func44, Try.ntmps44
  go_wp2_with fail
  refine (refCheck_ok _ _ _ _ hA).mono ?_
  rintro e w1 ⟨rfl, hb1⟩
  obtain ⟨W1, z1, ⟨x0, x1, x2⟩, ⟨y0, y1, y2⟩, ⟨r0, r1, r2⟩, f0, f1, f2⟩ := res33 hb1
  clear hb1
  go_wp2_with fail
  refine (refCheck_ok _ _ _ _ hB).mono ?_
  rintro e w2 ⟨rfl, hb2⟩
  have W2 := hidTrans W1 hb2 (by omega)
  obtain ⟨⟨q0, q1, q2⟩, p0, p1, p2⟩ := keepF hb2 z1 ⟨r0, r1, r2⟩ ⟨f0, f1, f2⟩
  obtain ⟨_, u0, u1, u2⟩ := keep3 (B := w.heap.size) hb2 (by omega) x0 x1 x2
  obtain ⟨_, v0, v1, v2⟩ := keep3 (B := w.heap.size + 1) hb2 (by omega) y0 y1 y2
  have z2 := Nat.lt_of_lt_of_le z1 hb2.size
  clear hb2 y0 y1 y2 r0 r1 r2 f0 f1 f2 x0 x1 x2 W1 z1
  go_wp2_with fail
  refine (refIsEmpty_any _ _ _ _).mono ?_
  rintro e w3 ⟨rfl, hb3⟩
  have W3 := hidTrans W2 hb3 (by omega)
  obtain ⟨⟨r0, r1, r2⟩, f0, f1, f2⟩ := keepF hb3 z2 ⟨q0, q1, q2⟩ ⟨p0, p1, p2⟩
  obtain ⟨_, y0, y1, y2⟩ := keep3 (B := w.heap.size + 1) hb3 (by omega) v0 v1 v2
  have z3 := Nat.lt_of_lt_of_le z2 hb3.size
  clear hb3 q0 q1 q2 p0 p1 p2 u0 u1 u2 v0 v1 v2 W2 z2
  go_wp2_with fail
  refine (refIsEmpty_any _ _ _ _).mono ?_
  rintro e w4 ⟨rfl, hb4⟩
  have W4 := hidTrans W3 hb4 (by omega)
  obtain ⟨⟨q0, q1, q2⟩, p0, p1, p2⟩ := keepF hb4 z3 ⟨r0, r1, r2⟩ ⟨f0, f1, f2⟩
  have z4 := Nat.lt_of_lt_of_le z3 hb4.size
  clear hb4 y0 y1 y2 r0 r1 r2 f0 f1 f2 W3 z3
  go_wp2_with fail
  refine (refEmpty_any _).mono ?_
  rintro e w' ⟨rfl, rfl⟩
  go_wp2_with fail
  refine bodyPost_ret (v := .tuple #[.agg #[.int .i64 1, .int .i64 0, .int .i64 1], .int .i64 0]) (by simp [results, Try.results44, go_sem, *]) rfl ⟨rfl, ?_⟩
  repeat (first | exact W4.out | refine Below.alloc ?_ (by simp [World.setCell]; omega) _ | refine Below.setCell ?_ (by simp; try omega) _)
end Go.Proofs.Ytabgphlpdoockaa
