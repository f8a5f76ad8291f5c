/-
  Part 6: RefP, RefQ, AlgH, RefS.
-/
import Derived.Test.YtabgphlpdoockaaDp5
import Derived.BigQuiet
import Derived.Deep.CutBlock
import Derived.Deep.DeepCutAuto
import Derived.Deep.DrawnRows
import Derived.Deep.LoopGhost
import Derived.Deep.QuietTactic
import Derived.Deep.RegionHeld3
import Derived.Deep.RegionWith
import Derived.Lib.Hide
import Derived.WalkKit
import Derived.WalkLawsBesides
import Derived.WalkSpells
namespace Go.Proofs.Ytabgphlpdoockaa
open Go.RowKit
set_option maxRecDepth 100000 in
set_option maxHeartbeats 3200000 in
theorem refIntersect_two (l1 h1 s1 l2 h2 s2 : Int) (w : World) (hA : Hid (chk l1 h1 s1 = 0)) (hB : Hid (chk l2 h2 s2 = 0)) (leA : l1 ≤ h1) (leB : l2 ≤ h2) :
    Calls Try.prog 44 #[.agg #[.int .i64 l1, .int .i64 h1, .int .i64 s1], .agg #[.int .i64 l2, .int .i64 h2, .int .i64 s2]] w (InterDir l1 h1 s1 l2 h2 s2 w) := by
  have bA := chk_bounds hA.out
  have bB := chk_bounds hB.out
  have e1 : reqB l1 h1 s1 1 0 1 = false := by unfold reqB; simp; omega
  have e2 : reqB l2 h2 s2 1 0 1 = false := by unfold reqB; simp; omega
  go_enter Try.func44, Try.ntmps44
  go_wp2_with fail
  refine (refCheck_ok _ _ _ _ hA).mono ?_
  rintro e w1 ⟨rfl, hb1⟩
  obtain ⟨W1, z1, ⟨x0, x1, x2⟩, ⟨y0, y1, y2⟩, ⟨r0, r1, r2⟩, f0, f1, f2⟩ := res33 hb1
  clear hb1
  go_wp2_with fail
  refine (refCheck_ok _ _ _ _ hB).mono ?_
  rintro e w2 ⟨rfl, hb2⟩
  have W2 := hidTrans W1 hb2 (by omega)
  obtain ⟨⟨q0, q1, q2⟩, p0, p1, p2⟩ := keepF hb2 z1 ⟨r0, r1, r2⟩ ⟨f0, f1, f2⟩
  obtain ⟨_, u0, u1, u2⟩ := keep3 (B := w.heap.size) hb2 (by omega) x0 x1 x2
  obtain ⟨_, v0, v1, v2⟩ := keep3 (B := w.heap.size + 1) hb2 (by omega) y0 y1 y2
  have z2 := Nat.lt_of_lt_of_le z1 hb2.size
  clear hb2 y0 y1 y2 r0 r1 r2 f0 f1 f2 x0 x1 x2 W1 z1
  go_wp2_with fail
  refine (refIsEmpty_any _ _ _ _).mono ?_
  rintro e w3 ⟨rfl, hb3⟩
  have W3 := hidTrans W2 hb3 (by omega)
  obtain ⟨⟨r0, r1, r2⟩, f0, f1, f2⟩ := keepF hb3 z2 ⟨q0, q1, q2⟩ ⟨p0, p1, p2⟩
  obtain ⟨_, x0, x1, x2⟩ := keep3 (B := w.heap.size) hb3 (by omega) u0 u1 u2
  obtain ⟨_, y0, y1, y2⟩ := keep3 (B := w.heap.size + 1) hb3 (by omega) v0 v1 v2
  have z3 := Nat.lt_of_lt_of_le z2 hb3.size
  clear hb3 q0 q1 q2 p0 p1 p2 u0 u1 u2 v0 v1 v2 W2 z2
  go_wp2_with fail
  refine (refIsEmpty_any _ _ _ _).mono ?_
  rintro e w4 ⟨rfl, hb4⟩
  have W4 := hidTrans W3 hb4 (by omega)
  obtain ⟨⟨q0, q1, q2⟩, p0, p1, p2⟩ := keepF hb4 z3 ⟨r0, r1, r2⟩ ⟨f0, f1, f2⟩
  obtain ⟨_, u0, u1, u2⟩ := keep3 (B := w.heap.size) hb4 (by omega) x0 x1 x2
  obtain ⟨_, v0, v1, v2⟩ := keep3 (B := w.heap.size + 1) hb4 (by omega) y0 y1 y2
  have z4 := Nat.lt_of_lt_of_le z3 hb4.size
  clear hb4 y0 y1 y2 r0 r1 r2 f0 f1 f2 x0 x1 x2 W3 z3
  have G4 := Lib.hid (And.intro (And.intro q0 (And.intro q1 q2)) (And.intro p0 (And.intro p1 p2)))
  clear q0 q1 q2 p0 p1 p2
  go_upto_region 9 with fail
  clear e1 e2
  go_region_held3 (fun w' => w'.cell? ⟨w.heap.size, 0, none⟩ = some (.int .i64 l1) ∧ w'.cell? ⟨w.heap.size, 1, none⟩ = some (.int .i64 h1) ∧ w'.cell? ⟨w.heap.size, 2, none⟩ = some (.int .i64 s1) ∧ w'.cell? ⟨w.heap.size + 1, 0, none⟩ = some (.int .i64 l2) ∧ w'.cell? ⟨w.heap.size + 1, 1, none⟩ = some (.int .i64 h2) ∧ w'.cell? ⟨w.heap.size + 1, 2, none⟩ = some (.int .i64 s2)) (first | go_keep | (refine ⟨?_, ?_, ?_, ?_, ?_, ?_⟩ <;> (rw [hc1 _ _ (by first | omega | (simp; omega))]; go_keep))) (first | (go_at_call 112; refine (refStep_any _ _ _ _ (by omega) (by omega)).mono ?_; rintro e w5 ⟨rfl, hb5⟩; obtain ⟨hc1, hf1⟩ := bcell hb5; have hz5 := hb5.size; (try simp at hz5)))
  rename_i wa hba hca hfa hza hHeld
  have W5 := Lib.hid ((W4.out.drew.trans (hba.mono (by simp; omega))).trans (hb5.mono (by omega)))
  obtain ⟨u0, u1, u2, v0, v1, v2⟩ := hHeld
  clear hca hfa hc1 hf1
  go_wp2_with fail
  obtain ⟨x, g⟩ := gcdI_gcd (magA s1) (magA s2) (by omega) (by omega) (by omega) (by omega)
  refine (refGcd_any _ _ _ _ (by omega) (by omega) (by omega) (by omega) (Lib.hid rfl)).mono ?_
  rintro e w6 ⟨rfl, hb6⟩
  have d1 := g.pos (by omega)
  have G := Lib.hid g
  clear g
  generalize hd : gcdI (magA s1) (magA s2) = d at *
  clear hd
  have q1 := quo_bd (magA s1) d (by omega) d1
  have q2 := prod_small2 (magA s1 / d) (magA s2) (by omega) (by omega) (by omega) (by omega)
  have dz : ¬ d = 0 := by omega
  have k1 : IntKind.i64.wrap ((magA s1).tdiv d) = magA s1 / d := IntWalk.i64_quo _ _ ⟨by omega, by omega, d1⟩
  have k2 : IntKind.i64.wrap (magA s1 / d * magA s2) = magA s1 / d * magA s2 := IntWalk.i64_in _ (by omega)
  have W6 := hidTrans W5 hb6 (by omega)
  obtain ⟨zb, x0, x1, x2⟩ := keep3 (B := w.heap.size) hb6 (by omega) u0 u1 u2
  obtain ⟨zc, y0, y1, y2⟩ := keep3 (B := w.heap.size + 1) hb6 (by omega) v0 v1 v2
  have hba' : Below w4.heap.size w4 wa := ((Below.refl w4.heap.size w4).drew).trans (hba.mono (by simp))
  have H4 := Lib.hid ((hba'.trans (hb5.mono (hba'.size))).trans (hb6.mono (Nat.le_trans hba'.size hb5.size)))
  clear W4 W5 u0 u1 u2 v0 v1 v2 hba hba' hb5 hb6 hza
  go_upto_if 54 with fail
  go_cut [11, 12] (fun s11 s12 wx => ∃ f lo : Int, s11 = .int .i64 lo ∧ s12 = .int .i64 f ∧ (magA s1 ∣ f - l1 ∧ max l1 l2 ≤ f ∧ f ≤ max l1 l2 + magA s1 - 1 ∧ ∀ n, max l1 l2 ≤ n → magA s1 ∣ n - l1 → f ≤ n) ∧ Below w6.heap.size w6 wx)
  case first =>
    by_cases c : l1 < l2
    · have hm : 1 ≤ magA s1 := bA.2.2.2.2.2.2.1
      have e := Int.mul_ediv_add_emod (l2 - l1 + magA s1 - 1) (magA s1)
      have r0 := Int.emod_nonneg (l2 - l1 + magA s1 - 1) (show magA s1 ≠ 0 by omega)
      have r1 := Int.emod_lt_of_pos (l2 - l1 + magA s1 - 1) (show 0 < magA s1 by omega)
      have t := quo_bd (l2 - l1 + magA s1 - 1) (magA s1) (by omega) hm
      rw [Int.mul_comm] at e
      have mz : ¬ magA s1 = 0 := by omega
      have emx : max l1 l2 = l2 := by omega
      have F := Lib.hid (first_ge (l := l1) (low := max l1 l2) (f := l1 + (l2 - l1 + magA s1 - 1) / magA s1 * magA s1) hm (by omega) (by rw [emx]))
      have j1 : IntKind.i64.wrap (l2 - l1) = l2 - l1 := IntWalk.i64_in _ (by omega)
      have j2 : IntKind.i64.wrap (l2 - l1 + magA s1) = l2 - l1 + magA s1 := IntWalk.i64_in _ (by omega)
      have j3 : IntKind.i64.wrap (l2 - l1 + magA s1 - 1) = l2 - l1 + magA s1 - 1 := IntWalk.i64_in _ (by omega)
      have j4 : IntKind.i64.wrap ((l2 - l1 + magA s1 - 1).tdiv (magA s1)) = (l2 - l1 + magA s1 - 1) / magA s1 := IntWalk.i64_quo _ _ ⟨by omega, by omega, hm⟩
      have j5 : IntKind.i64.wrap ((l2 - l1 + magA s1 - 1) / magA s1 * magA s1) = (l2 - l1 + magA s1 - 1) / magA s1 * magA s1 := IntWalk.i64_in _ (by omega)
      have j6 : IntKind.i64.wrap (l1 + (l2 - l1 + magA s1 - 1) / magA s1 * magA s1) = l1 + (l2 - l1 + magA s1 - 1) / magA s1 * magA s1 := IntWalk.i64_in _ (by omega)
      clear e r0 r1 emx
      go_wp2_with fail
      go_region
      go_wp2_with fail
      go_meet
      exact ⟨_, _, rfl, rfl, F.out, (Below.refl _ _).drew⟩
    · have emx := Lib.hid (show max l1 l2 = l1 by omega)
      go_wp2_with fail
      go_meet
      have hm : 1 ≤ magA s1 := bA.2.2.2.2.2.2.1
      rw [emx.out]
      exact ⟨l1, _, rfl, rfl, ⟨by rw [Int.sub_self]; exact Int.dvd_zero _, by omega, by omega, fun n h _ => h⟩, Below.refl _ _⟩
  case rest =>
    obtain ⟨f, lo, rfl, rfl, hf, hb7⟩ := hcut
    have FD := Lib.hid hf.1
    have FL := Lib.hid hf.2.2.2
    have f1 := hf.2.1
    have f2 := hf.2.2.1
    obtain ⟨_, u0, u1, u2⟩ := keep3 (B := w.heap.size) hb7 zb x0 x1 x2
    obtain ⟨_, v0, v1, v2⟩ := keep3 (B := w.heap.size + 1) hb7 zc y0 y1 y2
    have zw := hb7.size
    have H7 := Lib.hid hb7
    clear hf hb7 x0 x1 x2 y0 y1 y2
    go_upto_block 0 with fail
    go_cut [12, 13] (fun s12 s13 wx => ∃ g k : Int, s12 = .int .i64 g ∧ s13 = .int .i64 k ∧ (max l1 l2 ≤ g ∧ g ≤ 3000000 ∧ magA s1 ∣ g - l1 ∧ (∀ n, RMem l1 h1 s1 n → RMem l2 h2 s2 n → g ≤ n) ∧ (posB l2 h2 s2 g = true ∨ ∀ n, RMem l1 h1 s1 n → RMem l2 h2 s2 n → False)) ∧ Below wc.heap.size wc wx)
    case first =>
      go_wp2_with fail
      go_loopg [12, 13] ((magA s2).toNat + 1) (fun m v12 v13 wr => ∃ g k : Int, v12 = .int .i64 g ∧ v13 = .int .i64 k ∧ (0 ≤ k ∧ k ≤ magA s2 ∧ g = f + k * magA s1 ∧ g ≤ 3000000 ∧ (magA s2 - k).toNat < m ∧ ∀ n, RMem l1 h1 s1 n → RMem l2 h2 s2 n → g ≤ n) ∧ Below wc.heap.size wc wr)
      case atStart => exact ⟨f, 0, rfl, rfl, ⟨by omega, by omega, by omega, by omega, by omega, fun n m1 m2 => FL.out n (by have := m1.1; have := m2.1; omega) m1.2.2⟩, Below.refl _ _⟩
      case round =>
        obtain ⟨g, k, rfl, rfl, ⟨k0, k1', kg, gb, km, kl⟩, hB⟩ := hrel
        have mm := prod_small2 k (magA s1) (by omega) (by omega) (by omega) (by omega)
        have hm1 : 1 ≤ magA s1 := bA.2.2.2.2.2.2.1
        have gx : max l1 l2 ≤ g := by omega
        have gd : magA s1 ∣ g - l1 := by
          have := Int.dvd_add FD.out (Int.dvd_mul_left k (magA s1))
          rwa [show f - l1 + k * magA s1 = g - l1 by omega] at this
        have KG := Lib.hid kg
        have KM := Lib.hid km
        have KL := Lib.hid kl
        have GD := Lib.hid gd
        obtain ⟨_, x0, x1, x2⟩ := keep3 (B := w.heap.size) hB (by omega) u0 u1 u2
        obtain ⟨_, y0, y1, y2⟩ := keep3 (B := w.heap.size + 1) hB (by omega) v0 v1 v2
        have zz := hB.size
        have HB := Lib.hid hB
        clear kg km kl gd hB u0 u1 u2 v0 v1 v2
        by_cases c1 : k < magA s2
        · by_cases c2 : g ≤ h1
          · by_cases c3 : g ≤ h2
            · go_wp2_with fail
              refine (refHas_any _ _ _ _ _ ⟨by omega, by omega⟩ ⟨by omega, by omega⟩ ⟨by omega, by omega⟩).mono ?_
              rintro e w8 ⟨rfl, hb8⟩
              have W8 := hidTrans HB hb8 zz
              clear hb8 x0 x1 x2 y0 y1 y2
              by_cases c4 : posB l2 h2 s2 g = true
              · go_wp2_with fail
                go_meet
                exact ⟨g, k, rfl, rfl, ⟨gx, gb, GD.out, KL.out, Or.inl c4⟩, W8.out⟩
              · have c5 : posB l2 h2 s2 g = false := by simpa using c4
                have NB : Hid (¬ RMem l2 h2 s2 g) := Lib.hid (fun m => c4 (by unfold posB; simpa [hB.out] using ⟨m.1, m.2.1, Int.emod_eq_zero_of_dvd m.2.2⟩))
                clear c4
                have j1 : IntKind.i64.wrap (g + magA s1) = g + magA s1 := IntWalk.i64_in _ (by omega)
                have j2 : IntKind.i64.wrap (k + 1) = k + 1 := IntWalk.i64_in _ (by omega)
                go_wp2_with fail
                go_roundg (magA s2 - k).toNat
                case measure => exact KM.out
                case rel =>
                  refine ⟨g + magA s1, k + 1, rfl, rfl, ⟨by omega, by omega, ?_, by omega, by omega, fun n m1 m2 => ?_⟩, W8.out⟩
                  · rw [KG.out, Int.add_mul]; omega
                  · have q := KL.out n m1 m2
                    by_cases e : n = g
                    · subst e; exact absurd m2 NB.out
                    · have d := Int.dvd_sub m1.2.2 GD.out
                      rw [show n - l1 - (g - l1) = n - g by omega] at d
                      have := Int.le_of_dvd (by omega) d
                      omega
            · go_wp2_with fail
              go_meet
              exact ⟨g, k, rfl, rfl, ⟨gx, gb, GD.out, KL.out, Or.inr fun n m1 m2 => by have := KL.out n m1 m2; have := m2.2.1; omega⟩, HB.out⟩
          · go_wp2_with fail
            go_meet
            exact ⟨g, k, rfl, rfl, ⟨gx, gb, GD.out, KL.out, Or.inr fun n m1 m2 => by have := KL.out n m1 m2; have := m1.2.1; omega⟩, HB.out⟩
        · go_wp2_with fail
          go_meet
          refine ⟨g, k, rfl, rfl, ⟨gx, gb, GD.out, KL.out, Or.inr fun n m1 m2 => no_common (l1 := l1) (h1 := h1) (s1 := magA s1) (l2 := l2) (h2 := h2) (s2 := magA s2) (f := f) hm1 bB.2.2.2.2.2.2.1 (by omega) (by omega) (fun n m1 m2 => ?_) _ n (Nat.le_refl _) m1 m2⟩, HB.out⟩
          have := KL.out n m1 m2
          rw [KG.out, show k = magA s2 by omega] at this
          exact this
    case rest =>
      obtain ⟨g, k, rfl, rfl, ⟨gx, gb, gd, gl, gp⟩, hb8⟩ := hcut
      obtain ⟨_, x0, x1, x2⟩ := keep3 (B := w.heap.size) hb8 (by omega) u0 u1 u2
      obtain ⟨_, y0, y1, y2⟩ := keep3 (B := w.heap.size + 1) hb8 (by omega) v0 v1 v2
      have z8 := hb8.size
      have H8 := Lib.hid hb8
      have GD := Lib.hid gd
      have GL := Lib.hid gl
      have GP := Lib.hid gp
      clear gd gl gp hb8 u0 u1 u2 v0 v1 v2
      have h4s := H4.out.size
      have h7s := H7.out.size
      have K6 := keepF H4.out z4 G4.out.1 G4.out.2
      have K7 := keepF H7.out (by omega) K6.1 K6.2
      have K8 := keepF H8.out (by omega) K7.1 K7.2
      have W8 := hidTrans (hidTrans W6 H7.out (by omega)) H8.out (by omega)
      have G8 := Lib.hid K8
      have z8' : w.heap.size + 1 + 1 < wc.heap.size := by omega
      clear K6 K7 K8 H4 H7 H8 W6 G4 z4 h4s h7s z8
      have hm0 : 1 ≤ magA s1 := bA.2.2.2.2.2.2.1
      have hm2 : 1 ≤ magA s2 := bB.2.2.2.2.2.2.1
      go_wp2_with fail
      refine (refHas_any _ _ _ _ _ ⟨by omega, by omega⟩ ⟨by omega, by omega⟩ ⟨by omega, by omega⟩).mono ?_
      rintro e w9 ⟨rfl, hb9⟩
      obtain ⟨_, t0, t1, t2⟩ := keep3 (B := w.heap.size) hb9 (by omega) x0 x1 x2
      obtain ⟨_, v0, v1, v2⟩ := keep3 (B := w.heap.size + 1) hb9 (by omega) y0 y1 y2
      have G9 := Lib.hid (keepF hb9 z8' G8.out.1 G8.out.2)
      have W9 := hidTrans W8 hb9 (by omega)
      have z9 := Nat.lt_of_lt_of_le z8' hb9.size
      clear hb9 G8 W8 x0 x1 x2 y0 y1 y2 z8'
      by_cases c4 : posB l1 h1 s1 g = true
      · go_wp2_with fail
        refine (refHas_any _ _ _ _ _ ⟨by omega, by omega⟩ ⟨by omega, by omega⟩ ⟨by omega, by omega⟩).mono ?_
        rintro e w10 ⟨rfl, hb10⟩
        obtain ⟨_, x0, x1, x2⟩ := keep3 (B := w.heap.size) hb10 (by omega) t0 t1 t2
        obtain ⟨_, y0, y1, y2⟩ := keep3 (B := w.heap.size + 1) hb10 (by omega) v0 v1 v2
        have G10 := Lib.hid (keepF hb10 z9 G9.out.1 G9.out.2)
        have W10 := hidTrans W9 hb10 (by omega)
        have z10 := Nat.lt_of_lt_of_le z9 hb10.size
        clear hb10 G9 W9 t0 t1 t2 v0 v1 v2 z9
        by_cases c5 : posB l2 h2 s2 g = true
        · obtain ⟨m1a, m1b, m1c, m1d⟩ := of_decide_eq_true c4
          obtain ⟨m2a, m2b, m2c, m2d⟩ := of_decide_eq_true c5
          have lf := lcm_facts G.out hm0 hm2
          have hmin : g ≤ min h1 h2 := by omega
          have CF := common_from (f := g) G.out hm0 hm2 ⟨by omega, m1c, GD.out⟩ ⟨m2b, m2c, Int.dvd_of_emod_eq_zero m2d⟩ GL.out rfl
          have b1 := CF.1
          have b2 := CF.2.1
          have qz : ¬ magA s1 / d * magA s2 = 0 := by omega
          have hq := quo_bd (min h1 h2 - g) (magA s1 / d * magA s2) (by omega) lf.1
          by_cases cm : h1 ≤ h2
          · have em : min h1 h2 = h1 := by omega
            rw [em] at b2 hq hmin CF
            have j1 : IntKind.i64.wrap (h1 - g) = h1 - g := IntWalk.i64_in _ (by omega)
            have j2 : IntKind.i64.wrap ((h1 - g).tdiv (magA s1 / d * magA s2)) = (h1 - g) / (magA s1 / d * magA s2) := IntWalk.i64_quo _ _ ⟨by omega, by omega, lf.1⟩
            have j3 : IntKind.i64.wrap ((h1 - g) / (magA s1 / d * magA s2) * (magA s1 / d * magA s2)) = (h1 - g) / (magA s1 / d * magA s2) * (magA s1 / d * magA s2) := IntWalk.i64_in _ (by omega)
            have j4 : IntKind.i64.wrap (g + (h1 - g) / (magA s1 / d * magA s2) * (magA s1 / d * magA s2)) = g + (h1 - g) / (magA s1 / d * magA s2) * (magA s1 / d * magA s2) := IntWalk.i64_in _ (by omega)
            have pm := prod_small2 (magA s1 / d) (magA s2) (by omega) (by omega) (by omega) (by omega)
            have CM : Hid (Common l1 h1 (magA s1) l2 h2 (magA s2) g (g + (h1 - g) / (magA s1 / d * magA s2) * (magA s1 / d * magA s2)) (magA s1 / d * magA s2)) := Lib.hid ⟨lf.1, pm.2, by omega, by omega, by omega, by omega, fun _ => CF.2.2.1, CF.2.2.2⟩
            go_wp2_with fail
            refine wp_region_held_drew (S := (fun w' => w'.cell? ⟨w.heap.size, 2, none⟩ = some (.int .i64 s1))) (by kernel_rfl) ?_ (fun hHeld => ?_)
            · first | exact x2 | exact hHeld | (simp [go_sem, *]; done)
            refine wpAnyH_take (i := 0) (oi := { dst := some 111, op := Op.move (Operand.tmp 12), type := 3, pos := "ref.go:298", after := #[], guard := none }) (v := ?_) rfl (by kernel_rfl) (by kernel_rfl) (by kernel_rfl) (fun _ _ _ h => h) (Or.inl ⟨by rfl, ?_⟩) (by assumption) ?_
            rotate_left
            · (intro w hSw; (try dsimp only at hSw); go_simp; first | done | with_reducible rfl)
            try simp only [Act.put, List.setIfInBounds_toArray, List.set_cons_zero, List.set_cons_succ]
            refine wpAnyH_take (i := 1) (oi := { dst := some 112, op := Op.move (Operand.tmp 12), type := 3, pos := "ref.go:298", after := #[], guard := none }) (v := ?_) rfl (by kernel_rfl) (by kernel_rfl) (by kernel_rfl) (fun _ _ _ h => h) (Or.inl ⟨by rfl, ?_⟩) (by assumption) ?_
            rotate_left
            · (intro w hSw; (try dsimp only at hSw); go_simp; first | done | with_reducible rfl)
            try simp only [Act.put, List.setIfInBounds_toArray, List.set_cons_zero, List.set_cons_succ]
            refine wpAnyH_take (i := 2) (oi := { dst := some 113, op := Op.move (Operand.tmp 14), type := 3, pos := "ref.go:298", after := #[], guard := none }) (v := ?_) rfl (by kernel_rfl) (by kernel_rfl) (by kernel_rfl) (fun _ _ _ h => h) (Or.inl ⟨by rfl, ?_⟩) (by assumption) ?_
            rotate_left
            · (intro w hSw; (try dsimp only at hSw); go_simp; first | done | with_reducible rfl)
            try simp only [Act.put, List.setIfInBounds_toArray, List.set_cons_zero, List.set_cons_succ]
            refine wpAnyH_take (i := 3) (oi := { dst := some 114, op := Op.move (Operand.tmp 12), type := 3, pos := "ref.go:298", after := #[], guard := none }) (v := ?_) rfl (by kernel_rfl) (by kernel_rfl) (by kernel_rfl) (fun _ _ _ h => h) (Or.inl ⟨by rfl, ?_⟩) (by assumption) ?_
            rotate_left
            · (intro w hSw; (try dsimp only at hSw); go_simp; first | done | with_reducible rfl)
            try simp only [Act.put, List.setIfInBounds_toArray, List.set_cons_zero, List.set_cons_succ]
            refine wpAnyH_take (i := 4) (oi := { dst := some 115, op := Op.binOp BinOp.sub 3 (Operand.tmp 113) (Operand.tmp 114) 3, type := 3, pos := "ref.go:298", after := #[{ on := 2, ground := Ground.data }, { on := 3, ground := Ground.data }], guard := none }) (v := ?_) rfl (by kernel_rfl) (by kernel_rfl) (by kernel_rfl) (fun _ _ _ h => h) (Or.inl ⟨by rfl, ?_⟩) (by assumption) ?_
            rotate_left
            · (intro w hSw; (try dsimp only at hSw); go_simp; first | done | with_reducible rfl)
            try simp only [Act.put, List.setIfInBounds_toArray, List.set_cons_zero, List.set_cons_succ]
            refine wpAnyH_take (i := 5) (oi := { dst := some 116, op := Op.move (Operand.tmp 10), type := 3, pos := "ref.go:298", after := #[], guard := none }) (v := ?_) rfl (by kernel_rfl) (by kernel_rfl) (by kernel_rfl) (fun _ _ _ h => h) (Or.inl ⟨by rfl, ?_⟩) (by assumption) ?_
            rotate_left
            · (intro w hSw; (try dsimp only at hSw); go_simp; first | done | with_reducible rfl)
            try simp only [Act.put, List.setIfInBounds_toArray, List.set_cons_zero, List.set_cons_succ]
            refine wpAnyH_take (i := 6) (oi := { dst := some 117, op := Op.binOp BinOp.quo 3 (Operand.tmp 115) (Operand.tmp 116) 3, type := 3, pos := "ref.go:298", after := #[{ on := 4, ground := Ground.data }, { on := 5, ground := Ground.data }], guard := none }) (v := ?_) rfl (by kernel_rfl) (by kernel_rfl) (by kernel_rfl) (fun _ _ _ h => h) (Or.inl ⟨by rfl, ?_⟩) (by assumption) ?_
            rotate_left
            · (intro w hSw; (try dsimp only at hSw); go_simp; first | done | with_reducible rfl)
            try simp only [Act.put, List.setIfInBounds_toArray, List.set_cons_zero, List.set_cons_succ]
            refine wpAnyH_take (i := 7) (oi := { dst := some 118, op := Op.move (Operand.tmp 10), type := 3, pos := "ref.go:298", after := #[], guard := none }) (v := ?_) rfl (by kernel_rfl) (by kernel_rfl) (by kernel_rfl) (fun _ _ _ h => h) (Or.inl ⟨by rfl, ?_⟩) (by assumption) ?_
            rotate_left
            · (intro w hSw; (try dsimp only at hSw); go_simp; first | done | with_reducible rfl)
            try simp only [Act.put, List.setIfInBounds_toArray, List.set_cons_zero, List.set_cons_succ]
            refine wpAnyH_take (i := 8) (oi := { dst := some 119, op := Op.binOp BinOp.mul 3 (Operand.tmp 117) (Operand.tmp 118) 3, type := 3, pos := "ref.go:298", after := #[{ on := 6, ground := Ground.data }, { on := 7, ground := Ground.data }], guard := none }) (v := ?_) rfl (by kernel_rfl) (by kernel_rfl) (by kernel_rfl) (fun _ _ _ h => h) (Or.inl ⟨by rfl, ?_⟩) (by assumption) ?_
            rotate_left
            · (intro w hSw; (try dsimp only at hSw); go_simp; first | done | with_reducible rfl)
            try simp only [Act.put, List.setIfInBounds_toArray, List.set_cons_zero, List.set_cons_succ]
            refine wpAnyH_take (i := 9) (oi := { dst := some 120, op := Op.binOp BinOp.add 3 (Operand.tmp 112) (Operand.tmp 119) 3, type := 3, pos := "ref.go:298", after := #[{ on := 1, ground := Ground.data }, { on := 8, ground := Ground.data }], guard := none }) (v := ?_) rfl (by kernel_rfl) (by kernel_rfl) (by kernel_rfl) (fun _ _ _ h => h) (Or.inl ⟨by rfl, ?_⟩) (by assumption) ?_
            rotate_left
            · (intro w hSw; (try dsimp only at hSw); go_simp; first | done | with_reducible rfl)
            try simp only [Act.put, List.setIfInBounds_toArray, List.set_cons_zero, List.set_cons_succ]
            refine wpAnyH_take (i := 10) (oi := { dst := some 121, op := Op.move (Operand.tmp 10), type := 3, pos := "ref.go:298", after := #[], guard := none }) (v := ?_) rfl (by kernel_rfl) (by kernel_rfl) (by kernel_rfl) (fun _ _ _ h => h) (Or.inl ⟨by rfl, ?_⟩) (by assumption) ?_
            rotate_left
            · (intro w hSw; (try dsimp only at hSw); go_simp; first | done | with_reducible rfl)
            try simp only [Act.put, List.setIfInBounds_toArray, List.set_cons_zero, List.set_cons_succ]
            refine wpAnyH_take (i := 11) (oi := { dst := some 122, op := Op.fieldAddr 23 (Operand.tmp 2) 2, type := 0, pos := "ref.go:298", after := #[], guard := none }) (v := ?_) rfl (by kernel_rfl) (by kernel_rfl) (by kernel_rfl) (fun _ _ _ h => h) (Or.inl ⟨by rfl, ?_⟩) (by assumption) ?_
            rotate_left
            · (intro w hSw; (try dsimp only at hSw); go_simp; first | done | with_reducible rfl)
            try simp only [Act.put, List.setIfInBounds_toArray, List.set_cons_zero, List.set_cons_succ]
            refine wpAnyH_take (i := 12) (oi := { dst := some 123, op := Op.load 3 (Operand.tmp 122), type := 3, pos := "ref.go:298", after := #[{ on := 11, ground := Ground.data }], guard := none }) (v := ?_) rfl (by kernel_rfl) (by kernel_rfl) (by kernel_rfl) (fun _ _ _ h => h) (Or.inl ⟨by rfl, ?_⟩) (by assumption) ?_
            rotate_left
            · (intro w hSw; (try dsimp only at hSw); go_simp; first | done | with_reducible rfl)
            try simp only [Act.put, List.setIfInBounds_toArray, List.set_cons_zero, List.set_cons_succ]
            refine wpAnyH_take (i := 13) (oi := { dst := some 124, op := Op.binOp BinOp.lss 3 (Operand.tmp 123) (Operand.const (Value.int IntKind.i64 0)) 3, type := 4, pos := "ref.go:298", after := #[{ on := 12, ground := Ground.data }], guard := none }) (v := ?_) rfl (by kernel_rfl) (by kernel_rfl) (by kernel_rfl) (fun _ _ _ h => h) (Or.inl ⟨by rfl, ?_⟩) (by assumption) ?_
            rotate_left
            · (intro w hSw; (try dsimp only at hSw); go_simp; first | done | with_reducible rfl)
            try simp only [Act.put, List.setIfInBounds_toArray, List.set_cons_zero, List.set_cons_succ]
            refine wpAnyH_ready (rs := [14]) (by kernel_rfl) (by simp) ?_
            refine AllReadyH.cons (o := { dst := some 125, op := Op.call { callee := Callee.value (Operand.func 108), args := #[Operand.tmp 111, Operand.tmp 120, Operand.tmp 121, Operand.tmp 124], argTypes := #[3, 3, 3, 4] }, type := 23, pos := "ref.go:298", after := #[{ on := 0, ground := Ground.data }, { on := 9, ground := Ground.data }, { on := 10, ground := Ground.data }, { on := 13, ground := Ground.data }], guard := none }) rfl (fun K hK => ?_) AllReadyH.nil
            go_simp
            refine (refNormal_any _ _ _ _ _ (by omega) (by omega)).mono ?_
            rintro e w11 ⟨rfl, hb11⟩
            have z11 : w10.heap.size ≤ w11.heap.size := hb11.size
            have G11 := Lib.hid (keepF (show Below w10.heap.size w10 w11 from ⟨hb11.os, hb11.tape, hb11.output, hb11.size, hb11.block⟩) (by omega) G10.out.1 G10.out.2)
            obtain ⟨⟨g0, g1, g2⟩, f0, f1, f2⟩ := G11.out
            go_wp2_with fail
            refine hK.out _ _ ?_ (fun hHeld14 => ?_)
            · (exact (hb11.cell (p := ⟨w.heap.size, 2, none⟩) (by simp; omega)).trans hHeld)
            clear hK K hHeld
            have hHeld := hHeld14
            clear hHeld14
            try simp only [Act.put, List.setIfInBounds_toArray, List.set_cons_zero, List.set_cons_succ]
            refine wpAnyH_ready (rs := [15]) (by kernel_rfl) (by simp) ?_
            refine AllReadyH.cons (o := { dst := none, op := Op.store 23 (Operand.tmp 4) (Operand.tmp 125), type := 0, pos := "ref.go:298", after := #[{ on := 14, ground := Ground.data }, { on := 14, ground := Ground.chain }, { on := 0, ground := Ground.phase }, { on := 1, ground := Ground.phase }, { on := 2, ground := Ground.phase }, { on := 3, ground := Ground.phase }, { on := 4, ground := Ground.phase }, { on := 5, ground := Ground.phase }, { on := 6, ground := Ground.phase }, { on := 7, ground := Ground.phase }, { on := 8, ground := Ground.phase }, { on := 9, ground := Ground.phase }, { on := 10, ground := Ground.phase }, { on := 11, ground := Ground.phase }, { on := 12, ground := Ground.phase }, { on := 13, ground := Ground.phase }, { on := 14, ground := Ground.phase }], guard := none }) rfl (fun K hK => ?_) AllReadyH.nil
            go_simp
            refine hK.out _ _ ?_ (fun hHeld15 => ?_)
            · first | exact x2 | exact hHeld | (simp [go_sem, *]; done)
            clear hK K hHeld
            have hHeld := hHeld15
            clear hHeld15
            try simp only [Act.put, List.setIfInBounds_toArray, List.set_cons_zero, List.set_cons_succ]
            refine wpAnyH_take (i := 16) (oi := { dst := some 5, op := Op.assign (Operand.const (Value.int IntKind.i64 0)), type := 24, pos := "ref.go:298", after := #[{ on := 15, ground := Ground.chain }, { on := 0, ground := Ground.phase }, { on := 1, ground := Ground.phase }, { on := 2, ground := Ground.phase }, { on := 3, ground := Ground.phase }, { on := 4, ground := Ground.phase }, { on := 5, ground := Ground.phase }, { on := 6, ground := Ground.phase }, { on := 7, ground := Ground.phase }, { on := 8, ground := Ground.phase }, { on := 9, ground := Ground.phase }, { on := 10, ground := Ground.phase }, { on := 11, ground := Ground.phase }, { on := 12, ground := Ground.phase }, { on := 13, ground := Ground.phase }, { on := 14, ground := Ground.phase }, { on := 15, ground := Ground.phase }], guard := none }) (v := ?_) rfl (by kernel_rfl) (by kernel_rfl) (by kernel_rfl) (fun _ _ _ h => h) (Or.inl ⟨by rfl, ?_⟩) (by assumption) ?_
            rotate_left
            · (intro w hSw; (try dsimp only at hSw); go_simp; first | done | with_reducible rfl)
            try simp only [Act.put, List.setIfInBounds_toArray, List.set_cons_zero, List.set_cons_succ]
            refine wpAnyH_done (by kernel_rfl) ?_ _
            have W11 := hidTrans W10 (show Below w10.heap.size w10 w11 from ⟨hb11.os, hb11.tape, hb11.output, hb11.size, hb11.block⟩) (by omega)
            clear hHeld hb11
            go_wp2
            refine bodyPost_ret (v := .tuple #[.agg #[.int .i64 (nL g (g + (h1 - g) / (magA s1 / d * magA s2) * (magA s1 / d * magA s2))), .int .i64 (nH g (g + (h1 - g) / (magA s1 / d * magA s2) * (magA s1 / d * magA s2))), .int .i64 (nS g (g + (h1 - g) / (magA s1 / d * magA s2) * (magA s1 / d * magA s2)) (magA s1 / d * magA s2) (decide (s1 < 0)))], .int .i64 0]) (by simp [results, Try.results44, go_sem, *]) rfl ⟨_, _, _, ⟨(inter_norm hA.out hB.out CM.out).1, (inter_norm hA.out hB.out CM.out).2, nS_dir lf.1 (fun _ => rfl)⟩, rfl, ?_⟩
            repeat (first | exact W11.out | refine Below.setCell ?_ (by simp; try omega) _)
          · have em : min h1 h2 = h2 := by omega
            rw [em] at b2 hq hmin CF
            have j1 : IntKind.i64.wrap (h2 - g) = h2 - g := IntWalk.i64_in _ (by omega)
            have j2 : IntKind.i64.wrap ((h2 - g).tdiv (magA s1 / d * magA s2)) = (h2 - g) / (magA s1 / d * magA s2) := IntWalk.i64_quo _ _ ⟨by omega, by omega, lf.1⟩
            have j3 : IntKind.i64.wrap ((h2 - g) / (magA s1 / d * magA s2) * (magA s1 / d * magA s2)) = (h2 - g) / (magA s1 / d * magA s2) * (magA s1 / d * magA s2) := IntWalk.i64_in _ (by omega)
            have j4 : IntKind.i64.wrap (g + (h2 - g) / (magA s1 / d * magA s2) * (magA s1 / d * magA s2)) = g + (h2 - g) / (magA s1 / d * magA s2) * (magA s1 / d * magA s2) := IntWalk.i64_in _ (by omega)
            have pm := prod_small2 (magA s1 / d) (magA s2) (by omega) (by omega) (by omega) (by omega)
            have CM : Hid (Common l1 h1 (magA s1) l2 h2 (magA s2) g (g + (h2 - g) / (magA s1 / d * magA s2) * (magA s1 / d * magA s2)) (magA s1 / d * magA s2)) := Lib.hid ⟨lf.1, pm.2, by omega, by omega, by omega, by omega, fun _ => CF.2.2.1, CF.2.2.2⟩
            go_wp2_with fail
            refine wp_region_held_drew (S := (fun w' => w'.cell? ⟨w.heap.size, 2, none⟩ = some (.int .i64 s1))) (by kernel_rfl) ?_ (fun hHeld => ?_)
            · first | exact x2 | exact hHeld | (simp [go_sem, *]; done)
            refine wpAnyH_take (i := 0) (oi := { dst := some 111, op := Op.move (Operand.tmp 12), type := 3, pos := "ref.go:298", after := #[], guard := none }) (v := ?_) rfl (by kernel_rfl) (by kernel_rfl) (by kernel_rfl) (fun _ _ _ h => h) (Or.inl ⟨by rfl, ?_⟩) (by assumption) ?_
            rotate_left
            · (intro w hSw; (try dsimp only at hSw); go_simp; first | done | with_reducible rfl)
            try simp only [Act.put, List.setIfInBounds_toArray, List.set_cons_zero, List.set_cons_succ]
            refine wpAnyH_take (i := 1) (oi := { dst := some 112, op := Op.move (Operand.tmp 12), type := 3, pos := "ref.go:298", after := #[], guard := none }) (v := ?_) rfl (by kernel_rfl) (by kernel_rfl) (by kernel_rfl) (fun _ _ _ h => h) (Or.inl ⟨by rfl, ?_⟩) (by assumption) ?_
            rotate_left
            · (intro w hSw; (try dsimp only at hSw); go_simp; first | done | with_reducible rfl)
            try simp only [Act.put, List.setIfInBounds_toArray, List.set_cons_zero, List.set_cons_succ]
            refine wpAnyH_take (i := 2) (oi := { dst := some 113, op := Op.move (Operand.tmp 14), type := 3, pos := "ref.go:298", after := #[], guard := none }) (v := ?_) rfl (by kernel_rfl) (by kernel_rfl) (by kernel_rfl) (fun _ _ _ h => h) (Or.inl ⟨by rfl, ?_⟩) (by assumption) ?_
            rotate_left
            · (intro w hSw; (try dsimp only at hSw); go_simp; first | done | with_reducible rfl)
            try simp only [Act.put, List.setIfInBounds_toArray, List.set_cons_zero, List.set_cons_succ]
            refine wpAnyH_take (i := 3) (oi := { dst := some 114, op := Op.move (Operand.tmp 12), type := 3, pos := "ref.go:298", after := #[], guard := none }) (v := ?_) rfl (by kernel_rfl) (by kernel_rfl) (by kernel_rfl) (fun _ _ _ h => h) (Or.inl ⟨by rfl, ?_⟩) (by assumption) ?_
            rotate_left
            · (intro w hSw; (try dsimp only at hSw); go_simp; first | done | with_reducible rfl)
            try simp only [Act.put, List.setIfInBounds_toArray, List.set_cons_zero, List.set_cons_succ]
            refine wpAnyH_take (i := 4) (oi := { dst := some 115, op := Op.binOp BinOp.sub 3 (Operand.tmp 113) (Operand.tmp 114) 3, type := 3, pos := "ref.go:298", after := #[{ on := 2, ground := Ground.data }, { on := 3, ground := Ground.data }], guard := none }) (v := ?_) rfl (by kernel_rfl) (by kernel_rfl) (by kernel_rfl) (fun _ _ _ h => h) (Or.inl ⟨by rfl, ?_⟩) (by assumption) ?_
            rotate_left
            · (intro w hSw; (try dsimp only at hSw); go_simp; first | done | with_reducible rfl)
            try simp only [Act.put, List.setIfInBounds_toArray, List.set_cons_zero, List.set_cons_succ]
            refine wpAnyH_take (i := 5) (oi := { dst := some 116, op := Op.move (Operand.tmp 10), type := 3, pos := "ref.go:298", after := #[], guard := none }) (v := ?_) rfl (by kernel_rfl) (by kernel_rfl) (by kernel_rfl) (fun _ _ _ h => h) (Or.inl ⟨by rfl, ?_⟩) (by assumption) ?_
            rotate_left
            · (intro w hSw; (try dsimp only at hSw); go_simp; first | done | with_reducible rfl)
            try simp only [Act.put, List.setIfInBounds_toArray, List.set_cons_zero, List.set_cons_succ]
            refine wpAnyH_take (i := 6) (oi := { dst := some 117, op := Op.binOp BinOp.quo 3 (Operand.tmp 115) (Operand.tmp 116) 3, type := 3, pos := "ref.go:298", after := #[{ on := 4, ground := Ground.data }, { on := 5, ground := Ground.data }], guard := none }) (v := ?_) rfl (by kernel_rfl) (by kernel_rfl) (by kernel_rfl) (fun _ _ _ h => h) (Or.inl ⟨by rfl, ?_⟩) (by assumption) ?_
            rotate_left
            · (intro w hSw; (try dsimp only at hSw); go_simp; first | done | with_reducible rfl)
            try simp only [Act.put, List.setIfInBounds_toArray, List.set_cons_zero, List.set_cons_succ]
            refine wpAnyH_take (i := 7) (oi := { dst := some 118, op := Op.move (Operand.tmp 10), type := 3, pos := "ref.go:298", after := #[], guard := none }) (v := ?_) rfl (by kernel_rfl) (by kernel_rfl) (by kernel_rfl) (fun _ _ _ h => h) (Or.inl ⟨by rfl, ?_⟩) (by assumption) ?_
            rotate_left
            · (intro w hSw; (try dsimp only at hSw); go_simp; first | done | with_reducible rfl)
            try simp only [Act.put, List.setIfInBounds_toArray, List.set_cons_zero, List.set_cons_succ]
            refine wpAnyH_take (i := 8) (oi := { dst := some 119, op := Op.binOp BinOp.mul 3 (Operand.tmp 117) (Operand.tmp 118) 3, type := 3, pos := "ref.go:298", after := #[{ on := 6, ground := Ground.data }, { on := 7, ground := Ground.data }], guard := none }) (v := ?_) rfl (by kernel_rfl) (by kernel_rfl) (by kernel_rfl) (fun _ _ _ h => h) (Or.inl ⟨by rfl, ?_⟩) (by assumption) ?_
            rotate_left
            · (intro w hSw; (try dsimp only at hSw); go_simp; first | done | with_reducible rfl)
            try simp only [Act.put, List.setIfInBounds_toArray, List.set_cons_zero, List.set_cons_succ]
            refine wpAnyH_take (i := 9) (oi := { dst := some 120, op := Op.binOp BinOp.add 3 (Operand.tmp 112) (Operand.tmp 119) 3, type := 3, pos := "ref.go:298", after := #[{ on := 1, ground := Ground.data }, { on := 8, ground := Ground.data }], guard := none }) (v := ?_) rfl (by kernel_rfl) (by kernel_rfl) (by kernel_rfl) (fun _ _ _ h => h) (Or.inl ⟨by rfl, ?_⟩) (by assumption) ?_
            rotate_left
            · (intro w hSw; (try dsimp only at hSw); go_simp; first | done | with_reducible rfl)
            try simp only [Act.put, List.setIfInBounds_toArray, List.set_cons_zero, List.set_cons_succ]
            refine wpAnyH_take (i := 10) (oi := { dst := some 121, op := Op.move (Operand.tmp 10), type := 3, pos := "ref.go:298", after := #[], guard := none }) (v := ?_) rfl (by kernel_rfl) (by kernel_rfl) (by kernel_rfl) (fun _ _ _ h => h) (Or.inl ⟨by rfl, ?_⟩) (by assumption) ?_
            rotate_left
            · (intro w hSw; (try dsimp only at hSw); go_simp; first | done | with_reducible rfl)
            try simp only [Act.put, List.setIfInBounds_toArray, List.set_cons_zero, List.set_cons_succ]
            refine wpAnyH_take (i := 11) (oi := { dst := some 122, op := Op.fieldAddr 23 (Operand.tmp 2) 2, type := 0, pos := "ref.go:298", after := #[], guard := none }) (v := ?_) rfl (by kernel_rfl) (by kernel_rfl) (by kernel_rfl) (fun _ _ _ h => h) (Or.inl ⟨by rfl, ?_⟩) (by assumption) ?_
            rotate_left
            · (intro w hSw; (try dsimp only at hSw); go_simp; first | done | with_reducible rfl)
            try simp only [Act.put, List.setIfInBounds_toArray, List.set_cons_zero, List.set_cons_succ]
            refine wpAnyH_take (i := 12) (oi := { dst := some 123, op := Op.load 3 (Operand.tmp 122), type := 3, pos := "ref.go:298", after := #[{ on := 11, ground := Ground.data }], guard := none }) (v := ?_) rfl (by kernel_rfl) (by kernel_rfl) (by kernel_rfl) (fun _ _ _ h => h) (Or.inl ⟨by rfl, ?_⟩) (by assumption) ?_
            rotate_left
            · (intro w hSw; (try dsimp only at hSw); go_simp; first | done | with_reducible rfl)
            try simp only [Act.put, List.setIfInBounds_toArray, List.set_cons_zero, List.set_cons_succ]
            refine wpAnyH_take (i := 13) (oi := { dst := some 124, op := Op.binOp BinOp.lss 3 (Operand.tmp 123) (Operand.const (Value.int IntKind.i64 0)) 3, type := 4, pos := "ref.go:298", after := #[{ on := 12, ground := Ground.data }], guard := none }) (v := ?_) rfl (by kernel_rfl) (by kernel_rfl) (by kernel_rfl) (fun _ _ _ h => h) (Or.inl ⟨by rfl, ?_⟩) (by assumption) ?_
            rotate_left
            · (intro w hSw; (try dsimp only at hSw); go_simp; first | done | with_reducible rfl)
            try simp only [Act.put, List.setIfInBounds_toArray, List.set_cons_zero, List.set_cons_succ]
            refine wpAnyH_ready (rs := [14]) (by kernel_rfl) (by simp) ?_
            refine AllReadyH.cons (o := { dst := some 125, op := Op.call { callee := Callee.value (Operand.func 108), args := #[Operand.tmp 111, Operand.tmp 120, Operand.tmp 121, Operand.tmp 124], argTypes := #[3, 3, 3, 4] }, type := 23, pos := "ref.go:298", after := #[{ on := 0, ground := Ground.data }, { on := 9, ground := Ground.data }, { on := 10, ground := Ground.data }, { on := 13, ground := Ground.data }], guard := none }) rfl (fun K hK => ?_) AllReadyH.nil
            go_simp
            refine (refNormal_any _ _ _ _ _ (by omega) (by omega)).mono ?_
            rintro e w11 ⟨rfl, hb11⟩
            have z11 : w10.heap.size ≤ w11.heap.size := hb11.size
            have G11 := Lib.hid (keepF (show Below w10.heap.size w10 w11 from ⟨hb11.os, hb11.tape, hb11.output, hb11.size, hb11.block⟩) (by omega) G10.out.1 G10.out.2)
            obtain ⟨⟨g0, g1, g2⟩, f0, f1, f2⟩ := G11.out
            go_wp2_with fail
            refine hK.out _ _ ?_ (fun hHeld14 => ?_)
            · (exact (hb11.cell (p := ⟨w.heap.size, 2, none⟩) (by simp; omega)).trans hHeld)
            clear hK K hHeld
            have hHeld := hHeld14
            clear hHeld14
            try simp only [Act.put, List.setIfInBounds_toArray, List.set_cons_zero, List.set_cons_succ]
            refine wpAnyH_ready (rs := [15]) (by kernel_rfl) (by simp) ?_
            refine AllReadyH.cons (o := { dst := none, op := Op.store 23 (Operand.tmp 4) (Operand.tmp 125), type := 0, pos := "ref.go:298", after := #[{ on := 14, ground := Ground.data }, { on := 14, ground := Ground.chain }, { on := 0, ground := Ground.phase }, { on := 1, ground := Ground.phase }, { on := 2, ground := Ground.phase }, { on := 3, ground := Ground.phase }, { on := 4, ground := Ground.phase }, { on := 5, ground := Ground.phase }, { on := 6, ground := Ground.phase }, { on := 7, ground := Ground.phase }, { on := 8, ground := Ground.phase }, { on := 9, ground := Ground.phase }, { on := 10, ground := Ground.phase }, { on := 11, ground := Ground.phase }, { on := 12, ground := Ground.phase }, { on := 13, ground := Ground.phase }, { on := 14, ground := Ground.phase }], guard := none }) rfl (fun K hK => ?_) AllReadyH.nil
            go_simp
            refine hK.out _ _ ?_ (fun hHeld15 => ?_)
            · first | exact x2 | exact hHeld | (simp [go_sem, *]; done)
            clear hK K hHeld
            have hHeld := hHeld15
            clear hHeld15
            try simp only [Act.put, List.setIfInBounds_toArray, List.set_cons_zero, List.set_cons_succ]
            refine wpAnyH_take (i := 16) (oi := { dst := some 5, op := Op.assign (Operand.const (Value.int IntKind.i64 0)), type := 24, pos := "ref.go:298", after := #[{ on := 15, ground := Ground.chain }, { on := 0, ground := Ground.phase }, { on := 1, ground := Ground.phase }, { on := 2, ground := Ground.phase }, { on := 3, ground := Ground.phase }, { on := 4, ground := Ground.phase }, { on := 5, ground := Ground.phase }, { on := 6, ground := Ground.phase }, { on := 7, ground := Ground.phase }, { on := 8, ground := Ground.phase }, { on := 9, ground := Ground.phase }, { on := 10, ground := Ground.phase }, { on := 11, ground := Ground.phase }, { on := 12, ground := Ground.phase }, { on := 13, ground := Ground.phase }, { on := 14, ground := Ground.phase }, { on := 15, ground := Ground.phase }], guard := none }) (v := ?_) rfl (by kernel_rfl) (by kernel_rfl) (by kernel_rfl) (fun _ _ _ h => h) (Or.inl ⟨by rfl, ?_⟩) (by assumption) ?_
            rotate_left
            · (intro w hSw; (try dsimp only at hSw); go_simp; first | done | with_reducible rfl)
            try simp only [Act.put, List.setIfInBounds_toArray, List.set_cons_zero, List.set_cons_succ]
            refine wpAnyH_done (by kernel_rfl) ?_ _
            have W11 := hidTrans W10 (show Below w10.heap.size w10 w11 from ⟨hb11.os, hb11.tape, hb11.output, hb11.size, hb11.block⟩) (by omega)
            clear hHeld hb11
            go_wp2
            refine bodyPost_ret (v := .tuple #[.agg #[.int .i64 (nL g (g + (h2 - g) / (magA s1 / d * magA s2) * (magA s1 / d * magA s2))), .int .i64 (nH g (g + (h2 - g) / (magA s1 / d * magA s2) * (magA s1 / d * magA s2))), .int .i64 (nS g (g + (h2 - g) / (magA s1 / d * magA s2) * (magA s1 / d * magA s2)) (magA s1 / d * magA s2) (decide (s1 < 0)))], .int .i64 0]) (by simp [results, Try.results44, go_sem, *]) rfl ⟨_, _, _, ⟨(inter_norm hA.out hB.out CM.out).1, (inter_norm hA.out hB.out CM.out).2, nS_dir lf.1 (fun _ => rfl)⟩, rfl, ?_⟩
            repeat (first | exact W11.out | refine Below.setCell ?_ (by simp; try omega) _)
        · have c6 : posB l2 h2 s2 g = false := by simpa using c5
          have NO := Lib.hid (GP.out.resolve_left c5)
          clear c5
          obtain ⟨⟨g0, g1, g2⟩, f0, f1, f2⟩ := G10.out
          go_wp2_with fail
          refine (refEmpty_any _).mono ?_
          rintro e w' ⟨rfl, rfl⟩
          go_wp2_with fail
          refine bodyPost_ret (v := .tuple #[.agg #[.int .i64 1, .int .i64 0, .int .i64 1], .int .i64 0]) (by simp [results, Try.results44, go_sem, *]) rfl ⟨1, 0, 1, ⟨by decide, fun n => ⟨fun m => absurd m (rmem_none (by omega)), fun m => absurd (NO.out n m.1 m.2) id⟩, fun c => by omega⟩, rfl, ?_⟩
          repeat (first | exact W10.out | refine Below.alloc ?_ (by simp [World.setCell]; omega) _ | refine Below.setCell ?_ (by simp; try omega) _)
      · have c6 : posB l1 h1 s1 g = false := by simpa using c4
        have NO : Hid (∀ n, RMem l1 h1 s1 n → RMem l2 h2 s2 n → False) := Lib.hid (fun n m1 m2 => by
          rcases GP.out with p | p
          · refine c4 ?_
            have := GL.out n m1 m2
            have q := m1.2.1
            unfold posB
            simpa [hA.out] using ⟨(by omega : l1 ≤ g), (by omega : g ≤ h1), Int.emod_eq_zero_of_dvd GD.out⟩
          · exact p n m1 m2)
        clear c4
        obtain ⟨⟨g0, g1, g2⟩, f0, f1, f2⟩ := G9.out
        go_wp2_with fail
        refine (refEmpty_any _).mono ?_
        rintro e w' ⟨rfl, rfl⟩
        go_wp2_with fail
        refine bodyPost_ret (v := .tuple #[.agg #[.int .i64 1, .int .i64 0, .int .i64 1], .int .i64 0]) (by simp [results, Try.results44, go_sem, *]) rfl ⟨1, 0, 1, ⟨by decide, fun n => ⟨fun m => absurd m (rmem_none (by omega)), fun m => absurd (NO.out n m.1 m.2) id⟩, fun c => by omega⟩, rfl, ?_⟩
        repeat (first | exact W9.out | refine Below.alloc ?_ (by simp [World.setCell]; omega) _ | refine Below.setCell ?_ (by simp; try omega) _)
end Go.Proofs.Ytabgphlpdoockaa
namespace Go.Proofs.Ytabgphlpdoockaa
open Go.RowKit
/-- the reference's Intersect of right ranges has just the numbers of both -/
theorem refIntersect_dir (l1 h1 s1 l2 h2 s2 : Int) (w : World) (hA : Hid (chk l1 h1 s1 = 0)) (hB : Hid (chk l2 h2 s2 = 0)) :
    Calls Try.prog 44 #[.agg #[.int .i64 l1, .int .i64 h1, .int .i64 s1], .agg #[.int .i64 l2, .int .i64 h2, .int .i64 s2]] w (InterDir l1 h1 s1 l2 h2 s2 w) := by
  by_cases c1 : l1 ≤ h1
  · by_cases c2 : l2 ≤ h2
    · exact refIntersect_two l1 h1 s1 l2 h2 s2 w hA hB c1 c2
    · obtain ⟨rfl, rfl, rfl⟩ := le_of_chk hB.out c2
      exact (refIntersect_none2 l1 h1 s1 w hA c1).mono fun _ _ ⟨he, hb⟩ => ⟨1, 0, 1, ⟨by decide, fun n => ⟨fun m => absurd m (rmem_none (by omega)), fun m => absurd m.2 (rmem_none (by omega))⟩, fun c => by omega⟩, he, hb⟩
  · obtain ⟨rfl, rfl, rfl⟩ := le_of_chk hA.out c1
    exact (refIntersect_none1 l2 h2 s2 w hB).mono fun _ _ ⟨he, hb⟩ => ⟨1, 0, 1, ⟨by decide, fun n => ⟨fun m => absurd m (rmem_none (by omega)), fun m => absurd m.1 (rmem_none (by omega))⟩, fun c => by omega⟩, he, hb⟩
end Go.Proofs.Ytabgphlpdoockaa
namespace Go.Proofs.Ytabgphlpdoockaa
open Go.RowKit
/-- a block of four cells that the call itself made -/
structure Blk (g : Nat) (a b c d : Value) (w : World) : Prop where
  size : g < w.heap.size
  c0 : w.cell? ⟨g, 0, none⟩ = some a
  c1 : w.cell? ⟨g, 1, none⟩ = some b
  c2 : w.cell? ⟨g, 2, none⟩ = some c
  c3 : w.cell? ⟨g, 3, none⟩ = some d
  f0 : w.frozen? ⟨g, 0, none⟩ = false
  f1 : w.frozen? ⟨g, 1, none⟩ = false
  f2 : w.frozen? ⟨g, 2, none⟩ = false
  f3 : w.frozen? ⟨g, 3, none⟩ = false
theorem Blk.keep {g : Nat} {a b c d : Value} {w w1 : World} (k : Blk g a b c d w) (hb : Below w.heap.size w w1) : Blk g a b c d w1 :=
  ⟨Nat.lt_of_lt_of_le k.size hb.size, (hb.cell (p := ⟨g, 0, none⟩) k.size).trans k.c0, (hb.cell (p := ⟨g, 1, none⟩) k.size).trans k.c1, (hb.cell (p := ⟨g, 2, none⟩) k.size).trans k.c2, (hb.cell (p := ⟨g, 3, none⟩) k.size).trans k.c3,
    (hb.frozen (p := ⟨g, 0, none⟩) k.size).trans k.f0, (hb.frozen (p := ⟨g, 1, none⟩) k.size).trans k.f1, (hb.frozen (p := ⟨g, 2, none⟩) k.size).trans k.f2, (hb.frozen (p := ⟨g, 3, none⟩) k.size).trans k.f3⟩
theorem Blk.new (a b c d : Value) (t : TypeId) (w : World) : Blk w.heap.size a b c d (w.alloc (.cells #[a, b, c, d] t)) := by
  constructor <;> simp [go_sem]
theorem below_new (w : World) (o : Obj) : Below w.heap.size w (w.alloc o) := (Below.refl _ _).alloc (Nat.le_refl _) o
/-- four stores into a block -/
def set4 (w : World) (g : Nat) (a b c d : Value) : World := (((w.setCell ⟨g, 0, none⟩ a).setCell ⟨g, 1, none⟩ b).setCell ⟨g, 2, none⟩ c).setCell ⟨g, 3, none⟩ d
theorem Blk.set {g : Nat} {a b c d : Value} {w : World} (k : Blk g a b c d w) (a' b' c' d' : Value) : Blk g a' b' c' d' (set4 w g a' b' c' d') := by
  obtain ⟨s, c0, c1, c2, c3, f0, f1, f2, f3⟩ := k
  constructor
  · simp [set4, World.setCell]; exact s
  all_goals simp [set4, go_sem, *]
theorem Blk.other {g k : Nat} {a b c d : Value} {w : World} (h : Blk g a b c d w) (hne : g ≠ k) (a' b' c' d' : Value) : Blk g a b c d (set4 w k a' b' c' d') := by
  obtain ⟨s, c0, c1, c2, c3, f0, f1, f2, f3⟩ := h
  constructor
  · simp [set4, World.setCell]; exact s
  all_goals simp [set4, go_sem, *]
/-- what Hull's own blocks keep: the ranges, the result -/
structure HuRest (w : World) (w' : World) : Prop where
  size : w.heap.size + 1 + 1 < w'.heap.size
  below : Below w.heap.size w w'
  r : w'.cell? ⟨w.heap.size + 1 + 1, 0, none⟩ = some (.int .i64 0) ∧ w'.cell? ⟨w.heap.size + 1 + 1, 1, none⟩ = some (.int .i64 0) ∧ w'.cell? ⟨w.heap.size + 1 + 1, 2, none⟩ = some (.int .i64 0)
  f : w'.frozen? ⟨w.heap.size + 1 + 1, 0, none⟩ = false ∧ w'.frozen? ⟨w.heap.size + 1 + 1, 1, none⟩ = false ∧ w'.frozen? ⟨w.heap.size + 1 + 1, 2, none⟩ = false
def HuS (w : World) (l1 h1 s1 l2 h2 s2 : Int) (w' : World) : Prop := w'.cell? ⟨w.heap.size, 0, none⟩ = some (.int .i64 l1) ∧ w'.cell? ⟨w.heap.size, 1, none⟩ = some (.int .i64 h1) ∧ w'.cell? ⟨w.heap.size, 2, none⟩ = some (.int .i64 s1) ∧
  w'.cell? ⟨w.heap.size + 1, 0, none⟩ = some (.int .i64 l2) ∧ w'.cell? ⟨w.heap.size + 1, 1, none⟩ = some (.int .i64 h2) ∧ w'.cell? ⟨w.heap.size + 1, 2, none⟩ = some (.int .i64 s2) ∧ HuRest w w'
theorem HuS.keep {w : World} {l1 h1 s1 l2 h2 s2 : Int} {w1 w2 : World} (h : HuS w l1 h1 s1 l2 h2 s2 w1) (hb : Below (w.heap.size + 3) w1 w2) : HuS w l1 h1 s1 l2 h2 s2 w2 := by
  obtain ⟨x0, x1, x2, y0, y1, y2, z, b, r, f⟩ := h
  exact ⟨(hb.cell (p := ⟨w.heap.size, 0, none⟩) (by simp)).trans x0, (hb.cell (p := ⟨w.heap.size, 1, none⟩) (by simp)).trans x1, (hb.cell (p := ⟨w.heap.size, 2, none⟩) (by simp)).trans x2,
    (hb.cell (p := ⟨w.heap.size + 1, 0, none⟩) (by simp)).trans y0, (hb.cell (p := ⟨w.heap.size + 1, 1, none⟩) (by simp)).trans y1, (hb.cell (p := ⟨w.heap.size + 1, 2, none⟩) (by simp)).trans y2,
    Nat.lt_of_lt_of_le z hb.size, b.trans (hb.mono (by omega)),
    ⟨(hb.cell (p := ⟨w.heap.size + 1 + 1, 0, none⟩) (by simp)).trans r.1, (hb.cell (p := ⟨w.heap.size + 1 + 1, 1, none⟩) (by simp)).trans r.2.1, (hb.cell (p := ⟨w.heap.size + 1 + 1, 2, none⟩) (by simp)).trans r.2.2⟩,
    ⟨(hb.frozen (p := ⟨w.heap.size + 1 + 1, 0, none⟩) (by simp)).trans f.1, (hb.frozen (p := ⟨w.heap.size + 1 + 1, 1, none⟩) (by simp)).trans f.2.1, (hb.frozen (p := ⟨w.heap.size + 1 + 1, 2, none⟩) (by simp)).trans f.2.2⟩⟩
theorem HuS.three {w : World} {l1 h1 s1 l2 h2 s2 : Int} {w1 : World} (h : HuS w l1 h1 s1 l2 h2 s2 w1) : w.heap.size + 3 ≤ w1.heap.size := by have := h.2.2.2.2.2.2.size; omega
theorem Blk.set3 {g : Nat} {a b c d : Value} {w : World} (k : Blk g a b c d w) (d' : Value) : Blk g a b c d' (w.setCell ⟨g, 3, none⟩ d') := by
  have s := k.size
  have c0 := k.c0
  have c1 := k.c1
  have c2 := k.c2
  have c3 := k.c3
  have f0 := k.f0
  have f1 := k.f1
  have f2 := k.f2
  have f3 := k.f3
  constructor
  · simp [World.setCell]; exact s
  all_goals simp [go_sem, *]
theorem size_num {l h s : Int} (hk : chk l h s = 0) (hle : l ≤ h) : 1 ≤ siz l h s := (steps_a hk hle).2.1
end Go.Proofs.Ytabgphlpdoockaa
namespace Go.Proofs.Ytabgphlpdoockaa
open Go.RowKit
/-- a block of three cells that the call itself made -/
structure B3 (g : Nat) (a b c : Value) (w : World) : Prop where
  size : g < w.heap.size
  c0 : w.cell? ⟨g, 0, none⟩ = some a
  c1 : w.cell? ⟨g, 1, none⟩ = some b
  c2 : w.cell? ⟨g, 2, none⟩ = some c
  f0 : w.frozen? ⟨g, 0, none⟩ = false
  f1 : w.frozen? ⟨g, 1, none⟩ = false
  f2 : w.frozen? ⟨g, 2, none⟩ = false
theorem B3.keep {g : Nat} {a b c : Value} {w w1 : World} (k : B3 g a b c w) (hb : Below w.heap.size w w1) : B3 g a b c w1 :=
  ⟨Nat.lt_of_lt_of_le k.size hb.size, (hb.cell (p := ⟨g, 0, none⟩) k.size).trans k.c0, (hb.cell (p := ⟨g, 1, none⟩) k.size).trans k.c1, (hb.cell (p := ⟨g, 2, none⟩) k.size).trans k.c2,
    (hb.frozen (p := ⟨g, 0, none⟩) k.size).trans k.f0, (hb.frozen (p := ⟨g, 1, none⟩) k.size).trans k.f1, (hb.frozen (p := ⟨g, 2, none⟩) k.size).trans k.f2⟩
/-- three stores into a block -/
def set3 (w : World) (g : Nat) (a b c : Value) : World := ((w.setCell ⟨g, 0, none⟩ a).setCell ⟨g, 1, none⟩ b).setCell ⟨g, 2, none⟩ c
theorem set3s_below {B g : Nat} {w : World} (h : B ≤ g) (a b c : Value) : Below B w (set3 w g a b c) :=
  (((Below.refl _ _).setCell (p := ⟨g, 0, none⟩) h a).setCell (p := ⟨g, 1, none⟩) h b).setCell (p := ⟨g, 2, none⟩) h c
theorem B3.set {g : Nat} {a b c : Value} {w : World} (k : B3 g a b c w) (a' b' c' : Value) : B3 g a' b' c' (set3 w g a' b' c') := by
  obtain ⟨s, c0, c1, c2, f0, f1, f2⟩ := k
  constructor
  · simp [set3, World.setCell]; exact s
  all_goals simp [set3, go_sem, *]
theorem B3.other {g k : Nat} {a b c : Value} {w : World} (h : B3 g a b c w) (hne : g ≠ k) (a' b' c' : Value) : B3 g a b c (set3 w k a' b' c') := by
  obtain ⟨s, c0, c1, c2, f0, f1, f2⟩ := h
  constructor
  · simp [set3, World.setCell]; exact s
  all_goals simp [set3, go_sem, *]
/-- the blocks of a function with two ranges and a result that is a range -/
structure T3 (w : World) (a1 a2 a3 b1 b2 b3 : Int) (w' : World) : Prop where
  below : Below w.heap.size w w'
  a : B3 w.heap.size (.int .i64 a1) (.int .i64 a2) (.int .i64 a3) w'
  b : B3 (w.heap.size + 1) (.int .i64 b1) (.int .i64 b2) (.int .i64 b3) w'
  r : B3 (w.heap.size + 1 + 1) (.int .i64 0) (.int .i64 0) (.int .i64 0) w'
theorem T3.keep {w w1 w2 : World} {a1 a2 a3 b1 b2 b3 : Int} (h : T3 w a1 a2 a3 b1 b2 b3 w1) (hb : Below w1.heap.size w1 w2) : T3 w a1 a2 a3 b1 b2 b3 w2 :=
  ⟨h.below.trans (hb.mono h.below.size), h.a.keep hb, h.b.keep hb, h.r.keep hb⟩
theorem B3.new (a b c : Value) (t : TypeId) (w : World) : B3 w.heap.size a b c (w.alloc (.cells #[a, b, c] t)) := by
  constructor <;> simp [go_sem]
theorem T3.new {w w1 : World} {t : TypeId} {a1 a2 a3 b1 b2 b3 : Int} (hb : Below (((w.alloc (.cells #[.int .i64 a1, .int .i64 a2, .int .i64 a3] t)).alloc (.cells #[.int .i64 b1, .int .i64 b2, .int .i64 b3] t)).alloc (.cells #[.int .i64 0, .int .i64 0, .int .i64 0] t)).heap.size (((w.alloc (.cells #[.int .i64 a1, .int .i64 a2, .int .i64 a3] t)).alloc (.cells #[.int .i64 b1, .int .i64 b2, .int .i64 b3] t)).alloc (.cells #[.int .i64 0, .int .i64 0, .int .i64 0] t)) w1) : T3 w a1 a2 a3 b1 b2 b3 w1 := by
  have n0 := B3.new (.int .i64 a1) (.int .i64 a2) (.int .i64 a3) t w
  have n1 := B3.new (.int .i64 b1) (.int .i64 b2) (.int .i64 b3) t (w.alloc (.cells #[.int .i64 a1, .int .i64 a2, .int .i64 a3] t))
  have n2 := B3.new (.int .i64 0) (.int .i64 0) (.int .i64 0) t ((w.alloc (.cells #[.int .i64 a1, .int .i64 a2, .int .i64 a3] t)).alloc (.cells #[.int .i64 b1, .int .i64 b2, .int .i64 b3] t))
  have m0 := (n0.keep (below_new _ _)).keep (w1 := ((w.alloc (.cells #[.int .i64 a1, .int .i64 a2, .int .i64 a3] t)).alloc (.cells #[.int .i64 b1, .int .i64 b2, .int .i64 b3] t)).alloc (.cells #[.int .i64 0, .int .i64 0, .int .i64 0] t)) (below_new _ _)
  have m1 := n1.keep (w1 := ((w.alloc (.cells #[.int .i64 a1, .int .i64 a2, .int .i64 a3] t)).alloc (.cells #[.int .i64 b1, .int .i64 b2, .int .i64 b3] t)).alloc (.cells #[.int .i64 0, .int .i64 0, .int .i64 0] t)) (below_new _ _)
  have e1 : (w.alloc (.cells #[.int .i64 a1, .int .i64 a2, .int .i64 a3] t)).heap.size = w.heap.size + 1 := by simp
  have e2 : ((w.alloc (.cells #[.int .i64 a1, .int .i64 a2, .int .i64 a3] t)).alloc (.cells #[.int .i64 b1, .int .i64 b2, .int .i64 b3] t)).heap.size = w.heap.size + 1 + 1 := by simp
  rw [e1] at m1
  rw [e2] at n2
  exact ⟨((((Below.refl _ _).alloc (Nat.le_refl _) _).alloc (by simp) _).alloc (by simp; omega) _).trans (hb.mono (by simp; omega)), m0.keep hb, m1.keep hb, n2.keep hb⟩
/-- what stands in the boxes behind the test whether one is empty -/
def Sub1 (l1 h1 s1 l2 h2 s2 a1 a2 a3 : Int) : Prop := (l1 ≤ h1 ∧ a1 = l1 ∧ a2 = h1 ∧ a3 = s1) ∨ (¬ l1 ≤ h1 ∧ a1 = l2 ∧ a2 = h2 ∧ a3 = s2)
theorem Sub1.chk {l1 h1 s1 l2 h2 s2 a1 a2 a3 : Int} (h : Sub1 l1 h1 s1 l2 h2 s2 a1 a2 a3) (hA : chk l1 h1 s1 = 0) (hB : chk l2 h2 s2 = 0) : chk a1 a2 a3 = 0 := by
  rcases h with ⟨_, rfl, rfl, rfl⟩ | ⟨_, rfl, rfl, rfl⟩ <;> assumption
end Go.Proofs.Ytabgphlpdoockaa
