/-
  The contracts of the reference's By at a right range.
-/
import Derived.Test.YtdifilndpilboaaRefK
import Derived.WalkKit
import Derived.WalkSpells
import Derived.WalkLawsBesides
import Derived.BigQuiet
import Derived.Deep.QuietTactic
import Derived.Deep.RegionHeld3
import Derived.Deep.DrawnRows
import Derived.Lib.Hide
namespace Go.Proofs.Ytdifilndpilboaa
open Go.RowKit

set_option maxHeartbeats 800000 in
theorem refByZero (l h s : Int) (hk : Hid (chk l h s = 0)) : Ret4 29 l h s 0 0 0 0 1 := by
  intro w
  go_enter Try.func29, Try.ntmps29
  go_wp2_with fail
  refine (refCheck_ok l h s _ hk).mono ?_
  rintro e w1 ⟨rfl, hb1⟩
  obtain ⟨W1, z1, ⟨x0, x1, x2⟩, Y, Fz⟩ := res2 hb1
  obtain ⟨g0, g1, g2⟩ := Y
  obtain ⟨f0, f1, f2⟩ := Fz
  clear hb1
  go_wp2
  refine bodyPost_ret (v := .tuple #[.agg #[.int .i64 0, .int .i64 0, .int .i64 0], .int .i64 1]) (by simp [results, Try.results29, go_sem, *]) rfl ⟨rfl, ?_⟩
  repeat (first | exact W1.out | refine Below.setCell ?_ (by simp; try omega) _)

set_option maxHeartbeats 800000 in
theorem refByOut (l h s n : Int) (hk : Hid (chk l h s = 0)) (n0 : ¬ n = 0) (hn : Hid (¬ (-1000000 ≤ n ∧ n ≤ 1000000))) : Ret4 29 l h s n 0 0 0 4 := by
  have n0' : (n == 0) = false := by simp [n0]
  intro w
  go_enter Try.func29, Try.ntmps29
  go_wp2_with fail
  refine (refCheck_ok l h s _ hk).mono ?_
  rintro e w1 ⟨rfl, hb1⟩
  obtain ⟨W1, z1, ⟨x0, x1, x2⟩, Y, Fz⟩ := res2 hb1
  obtain ⟨g0, g1, g2⟩ := Y
  obtain ⟨f0, f1, f2⟩ := Fz
  clear hb1
  go_wp2_with fail
  refine (within_no _ _ hn.out).mono ?_
  rintro e w' ⟨rfl, rfl⟩
  go_wp2
  refine bodyPost_ret (v := .tuple #[.agg #[.int .i64 0, .int .i64 0, .int .i64 0], .int .i64 4]) (by simp [results, Try.results29, go_sem, *]) rfl ⟨rfl, ?_⟩
  repeat (first | exact W1.out | refine Below.setCell ?_ (by simp; try omega) _)

set_option maxHeartbeats 800000 in
theorem refByEmpty (l h s n : Int) (hk : Hid (chk l h s = 0)) (n0 : ¬ n = 0) (n1 : -1000000 ≤ n) (n2 : n ≤ 1000000) (hz : Hid (siz l h s = 0)) : Ret4 29 l h s n 1 0 1 0 := by
  have n0' : (n == 0) = false := by simp [n0]
  obtain ⟨b1, b2, b3, b4, b5, b6, b7, b8⟩ := chk_bounds hk.out
  intro w
  go_enter Try.func29, Try.ntmps29
  go_wp2_with fail
  refine (refCheck_ok l h s _ hk).mono ?_
  rintro e w1 ⟨rfl, hb1⟩
  obtain ⟨W1, z1, ⟨x0, x1, x2⟩, Y, Fz⟩ := res2 hb1
  have Y1 := Lib.hid Y
  have F1 := Lib.hid Fz
  clear hb1 Y Fz
  go_wp2_with fail
  refine (within_yes _ _ n1 n2).mono ?_
  rintro e w' ⟨rfl, rfl⟩
  go_wp2_with fail
  refine (refSize_zero l h s _ ⟨by omega, by omega⟩ ⟨by omega, by omega⟩ ⟨by omega, by omega⟩ hz).mono ?_
  rintro e w2 ⟨rfl, hb2⟩
  have W2 := hidTrans W1 hb2 (by omega)
  obtain ⟨z2, u0, u1, u2⟩ := keep3 hb2 (show w.heap.size < w1.heap.size by omega) x0 x1 x2
  have G2 := Lib.hid (keepF hb2 z1 Y1.out F1.out)
  have z2' := hb2.size
  clear hb2 W1 x0 x1 x2
  go_wp2_with fail
  refine (refEmptyB _).mono ?_
  rintro e w3 ⟨rfl, hb3⟩
  have W3 := hidTrans W2 hb3 (by omega)
  obtain ⟨⟨g0, g1, g2⟩, f0, f1, f2⟩ := keepF hb3 (by omega) G2.out.1 G2.out.2
  clear hb3 W2
  go_wp2
  refine bodyPost_ret (v := .tuple #[.agg #[.int .i64 1, .int .i64 0, .int .i64 1], .int .i64 0]) (by simp [results, Try.results29, go_sem, *]) rfl ⟨rfl, ?_⟩
  repeat (first | exact W3.out | refine Below.setCell ?_ (by simp; try omega) _)

set_option maxHeartbeats 1600000 in
theorem refByUpA (l h s n v1 v2 : Int) (hk : Hid (chk l h s = 0)) (n0 : 0 < n) (n2 : n ≤ 1000000) (hz : 1 ≤ siz l h s) (hv1 : Hid (v1 = if s < 0 then h - 0 * magA s else l + 0 * magA s)) (hv2 : Hid (v2 = if s < 0 then h - ((siz l h s - 1) / n * n) * magA s else l + ((siz l h s - 1) / n * n) * magA s)) (o1 : v1 < v2) : Ret4 29 l h s n (nL v1 v2) (nH v1 v2) (nS v1 v2 (magA s * n) false) 0 := by
  obtain ⟨b1, b2, b3, b4, b5, b6, b7, b8⟩ := chk_bounds hk.out
  have z0 := siz_bd hk.out
  have n1 : -1000000 ≤ n := by omega
  have n0' : (n == 0) = false := by simp; omega
  have n3 : ¬ n < 0 := by omega
  have hz' : (siz l h s == 0) = false := by simp; omega
  have q := quo_bd (siz l h s - 1) n (by omega) (by omega)
  have q2 : 0 ≤ (siz l h s - 1) / n * n ∧ (siz l h s - 1) / n * n ≤ siz l h s - 1 := by
    have e := ediv_mul (siz l h s - 1) n
    have r := rem_bd (siz l h s - 1) n (by omega) (by omega)
    rw [e]; omega
  have p := mul_le (magA s) n 2000000 1000000 b7 b8 (by omega) n2
  have o2 : ¬ v2 < v1 := by omega
  have o3 : decide (v2 < v1) = false := by simp; omega
  intro w
  go_enter Try.func29, Try.ntmps29
  go_wp2_with fail
  refine (refCheck_ok l h s _ hk).mono ?_
  rintro e w1 ⟨rfl, hb1⟩
  obtain ⟨W1, z1, ⟨x0, x1, x2⟩, Y, Fz⟩ := res2 hb1
  have Y1 := Lib.hid Y
  have F1 := Lib.hid Fz
  clear hb1 Y Fz
  go_wp2_with fail
  refine (within_yes _ _ n1 n2).mono ?_
  rintro e w' ⟨rfl, rfl⟩
  go_wp2_with fail
  refine (refSize_any l h s _ ⟨by omega, by omega⟩ ⟨by omega, by omega⟩ ⟨by omega, by omega⟩).mono ?_
  rintro e w2 ⟨rfl, hb2⟩
  have W2 := hidTrans W1 hb2 (by omega)
  obtain ⟨z2, u0, u1, u2⟩ := keep3 hb2 (show w.heap.size < w1.heap.size by omega) x0 x1 x2
  have G2 := Lib.hid (keepF hb2 z1 Y1.out F1.out)
  have z2' := hb2.size
  clear hb2 W1 x0 x1 x2
  go_wp2_with fail
  refine (refNthV l h s _ v1 _ hk (by omega) (by omega) hv1).mono ?_
  rintro e w3 ⟨rfl, hb3⟩
  have W3 := hidTrans W2 hb3 (by omega)
  obtain ⟨z3, u0, u1, u2⟩ := keep3 hb3 z2 u0 u1 u2
  have G3 := Lib.hid (keepF hb3 (by omega) G2.out.1 G2.out.2)
  have z3' := hb3.size
  clear hb3 W2
  go_wp2_with fail
  refine (refNthV l h s _ v2 _ hk (by omega) (by omega) hv2).mono ?_
  rintro e w4 ⟨rfl, hb4⟩
  have W4 := hidTrans W3 hb4 (by omega)
  obtain ⟨z4, u0, u1, u2⟩ := keep3 hb4 z3 u0 u1 u2
  have G4 := Lib.hid (keepF hb4 (by omega) G3.out.1 G3.out.2)
  have z4' := hb4.size
  clear hb4 W3
  go_wp2_with fail
  refine (refStep_any _ _ _ _ (by omega) (by omega)).mono ?_
  rintro e w5 ⟨rfl, hb5⟩
  have W5 := hidTrans W4 hb5 (by omega)
  have G5 := Lib.hid (keepF hb5 (by omega) G4.out.1 G4.out.2)
  have z5' := hb5.size
  clear hb5 W4
  go_wp2_with fail
  refine (refNormal_any _ _ _ _ _ (by omega) (by omega)).mono ?_
  rintro e w6 ⟨rfl, hb6⟩
  have W6 := hidTrans W5 hb6 (by omega)
  obtain ⟨⟨g0, g1, g2⟩, f0, f1, f2⟩ := keepF hb6 (by omega) G5.out.1 G5.out.2
  clear hb6 W5
  go_wp2
  refine bodyPost_ret (v := .tuple #[.agg #[.int .i64 (nL v1 v2), .int .i64 (nH v1 v2), .int .i64 (nS v1 v2 (magA s * n) false)], .int .i64 0]) (by simp [results, Try.results29, go_sem, *]) rfl ⟨rfl, ?_⟩
  repeat (first | exact W6.out | refine Below.setCell ?_ (by simp; try omega) _)

set_option maxHeartbeats 1600000 in
theorem refByDownA (l h s t v1 v2 : Int) (hk : Hid (chk l h s = 0)) (n0 : 0 < t) (n2 : t ≤ 1000000) (hz : 1 ≤ siz l h s) (hv1 : Hid (v1 = if s < 0 then h - (siz l h s - 1) * magA s else l + (siz l h s - 1) * magA s)) (hv2 : Hid (v2 = if s < 0 then h - (siz l h s - 1 - (siz l h s - 1) / t * t) * magA s else l + (siz l h s - 1 - (siz l h s - 1) / t * t) * magA s)) (o1 : v1 < v2) : Ret4 29 l h s (-t) (nL v1 v2) (nH v1 v2) (nS v1 v2 (magA s * t) false) 0 := by
  obtain ⟨b1, b2, b3, b4, b5, b6, b7, b8⟩ := chk_bounds hk.out
  have z0 := siz_bd hk.out
  have n0' : (-t == 0) = false := by simp; omega
  have n0'' : (t == 0) = false := by simp; omega
  have nt : -t < 0 := by omega
  have nt2 : ¬ 0 < -t := by omega
  have nt3 : ¬ t < 0 := by omega
  have hz' : (siz l h s == 0) = false := by simp; omega
  have q := quo_bd (siz l h s - 1) t (by omega) (by omega)
  have q2 : 0 ≤ (siz l h s - 1) / t * t ∧ (siz l h s - 1) / t * t ≤ siz l h s - 1 := by
    have e := ediv_mul (siz l h s - 1) t
    have r := rem_bd (siz l h s - 1) t (by omega) (by omega)
    rw [e]; omega
  have p := mul_le (magA s) t 2000000 1000000 b7 b8 (by omega) n2
  have o2 : ¬ v2 < v1 := by omega
  have o3 : decide (v2 < v1) = false := by simp; omega
  intro w
  go_enter Try.func29, Try.ntmps29
  go_wp2_with fail
  refine (refCheck_ok l h s _ hk).mono ?_
  rintro e w1 ⟨rfl, hb1⟩
  obtain ⟨W1, z1, ⟨x0, x1, x2⟩, Y, Fz⟩ := res2 hb1
  have Y1 := Lib.hid Y
  have F1 := Lib.hid Fz
  clear hb1 Y Fz
  go_wp2_with fail
  refine (within_yes _ _ (by omega) (by omega)).mono ?_
  rintro e w' ⟨rfl, rfl⟩
  go_wp2_with fail
  refine (refSize_any l h s _ ⟨by omega, by omega⟩ ⟨by omega, by omega⟩ ⟨by omega, by omega⟩).mono ?_
  rintro e w2 ⟨rfl, hb2⟩
  have W2 := hidTrans W1 hb2 (by omega)
  obtain ⟨z2, u0, u1, u2⟩ := keep3 hb2 (show w.heap.size < w1.heap.size by omega) x0 x1 x2
  have G2 := Lib.hid (keepF hb2 z1 Y1.out F1.out)
  have z2' := hb2.size
  clear hb2 W1 x0 x1 x2
  go_wp2_with fail
  refine (refNthV l h s _ v1 _ hk (by omega) (by omega) hv1).mono ?_
  rintro e w3 ⟨rfl, hb3⟩
  have W3 := hidTrans W2 hb3 (by omega)
  obtain ⟨z3, u0, u1, u2⟩ := keep3 hb3 z2 u0 u1 u2
  have G3 := Lib.hid (keepF hb3 (by omega) G2.out.1 G2.out.2)
  have z3' := hb3.size
  clear hb3 W2
  go_wp2_with fail
  refine (refNthV l h s _ v2 _ hk (by omega) (by omega) hv2).mono ?_
  rintro e w4 ⟨rfl, hb4⟩
  have W4 := hidTrans W3 hb4 (by omega)
  obtain ⟨z4, u0, u1, u2⟩ := keep3 hb4 z3 u0 u1 u2
  have G4 := Lib.hid (keepF hb4 (by omega) G3.out.1 G3.out.2)
  have z4' := hb4.size
  clear hb4 W3
  go_wp2_with fail
  refine (refStep_any _ _ _ _ (by omega) (by omega)).mono ?_
  rintro e w5 ⟨rfl, hb5⟩
  have W5 := hidTrans W4 hb5 (by omega)
  have G5 := Lib.hid (keepF hb5 (by omega) G4.out.1 G4.out.2)
  have z5' := hb5.size
  clear hb5 W4
  go_wp2_with fail
  refine (refNormal_any _ _ _ _ _ (by omega) (by omega)).mono ?_
  rintro e w6 ⟨rfl, hb6⟩
  have W6 := hidTrans W5 hb6 (by omega)
  obtain ⟨⟨g0, g1, g2⟩, f0, f1, f2⟩ := keepF hb6 (by omega) G5.out.1 G5.out.2
  clear hb6 W5
  go_wp2
  refine bodyPost_ret (v := .tuple #[.agg #[.int .i64 (nL v1 v2), .int .i64 (nH v1 v2), .int .i64 (nS v1 v2 (magA s * t) false)], .int .i64 0]) (by simp [results, Try.results29, go_sem, *]) rfl ⟨rfl, ?_⟩
  repeat (first | exact W6.out | refine Below.setCell ?_ (by simp; try omega) _)

set_option maxHeartbeats 1600000 in
theorem refByUpB (l h s n v1 v2 : Int) (hk : Hid (chk l h s = 0)) (n0 : 0 < n) (n2 : n ≤ 1000000) (hz : 1 ≤ siz l h s) (hv1 : Hid (v1 = if s < 0 then h - 0 * magA s else l + 0 * magA s)) (hv2 : Hid (v2 = if s < 0 then h - ((siz l h s - 1) / n * n) * magA s else l + ((siz l h s - 1) / n * n) * magA s)) (o2 : v2 < v1) : Ret4 29 l h s n (nL v2 v1) (nH v2 v1) (nS v2 v1 (magA s * n) true) 0 := by
  obtain ⟨b1, b2, b3, b4, b5, b6, b7, b8⟩ := chk_bounds hk.out
  have z0 := siz_bd hk.out
  have n1 : -1000000 ≤ n := by omega
  have n0' : (n == 0) = false := by simp; omega
  have n3 : ¬ n < 0 := by omega
  have hz' : (siz l h s == 0) = false := by simp; omega
  have q := quo_bd (siz l h s - 1) n (by omega) (by omega)
  have q2 : 0 ≤ (siz l h s - 1) / n * n ∧ (siz l h s - 1) / n * n ≤ siz l h s - 1 := by
    have e := ediv_mul (siz l h s - 1) n
    have r := rem_bd (siz l h s - 1) n (by omega) (by omega)
    rw [e]; omega
  have p := mul_le (magA s) n 2000000 1000000 b7 b8 (by omega) n2
  have o1 : ¬ v1 < v2 := by omega
  intro w
  go_enter Try.func29, Try.ntmps29
  go_wp2_with fail
  refine (refCheck_ok l h s _ hk).mono ?_
  rintro e w1 ⟨rfl, hb1⟩
  obtain ⟨W1, z1, ⟨x0, x1, x2⟩, Y, Fz⟩ := res2 hb1
  have Y1 := Lib.hid Y
  have F1 := Lib.hid Fz
  clear hb1 Y Fz
  go_wp2_with fail
  refine (within_yes _ _ n1 n2).mono ?_
  rintro e w' ⟨rfl, rfl⟩
  go_wp2_with fail
  refine (refSize_any l h s _ ⟨by omega, by omega⟩ ⟨by omega, by omega⟩ ⟨by omega, by omega⟩).mono ?_
  rintro e w2 ⟨rfl, hb2⟩
  have W2 := hidTrans W1 hb2 (by omega)
  obtain ⟨z2, u0, u1, u2⟩ := keep3 hb2 (show w.heap.size < w1.heap.size by omega) x0 x1 x2
  have G2 := Lib.hid (keepF hb2 z1 Y1.out F1.out)
  have z2' := hb2.size
  clear hb2 W1 x0 x1 x2
  go_wp2_with fail
  refine (refNthV l h s _ v1 _ hk (by omega) (by omega) hv1).mono ?_
  rintro e w3 ⟨rfl, hb3⟩
  have W3 := hidTrans W2 hb3 (by omega)
  obtain ⟨z3, u0, u1, u2⟩ := keep3 hb3 z2 u0 u1 u2
  have G3 := Lib.hid (keepF hb3 (by omega) G2.out.1 G2.out.2)
  have z3' := hb3.size
  clear hb3 W2
  go_wp2_with fail
  refine (refNthV l h s _ v2 _ hk (by omega) (by omega) hv2).mono ?_
  rintro e w4 ⟨rfl, hb4⟩
  have W4 := hidTrans W3 hb4 (by omega)
  obtain ⟨z4, u0, u1, u2⟩ := keep3 hb4 z3 u0 u1 u2
  have G4 := Lib.hid (keepF hb4 (by omega) G3.out.1 G3.out.2)
  have z4' := hb4.size
  clear hb4 W3
  go_wp2_with fail
  refine (refStep_any _ _ _ _ (by omega) (by omega)).mono ?_
  rintro e w5 ⟨rfl, hb5⟩
  have W5 := hidTrans W4 hb5 (by omega)
  have G5 := Lib.hid (keepF hb5 (by omega) G4.out.1 G4.out.2)
  have z5' := hb5.size
  clear hb5 W4
  go_wp2_with fail
  refine (refNormal_any _ _ _ _ _ (by omega) (by omega)).mono ?_
  rintro e w6 ⟨rfl, hb6⟩
  have W6 := hidTrans W5 hb6 (by omega)
  obtain ⟨⟨g0, g1, g2⟩, f0, f1, f2⟩ := keepF hb6 (by omega) G5.out.1 G5.out.2
  clear hb6 W5
  go_wp2
  refine bodyPost_ret (v := .tuple #[.agg #[.int .i64 (nL v2 v1), .int .i64 (nH v2 v1), .int .i64 (nS v2 v1 (magA s * n) true)], .int .i64 0]) (by simp [results, Try.results29, go_sem, *]) rfl ⟨rfl, ?_⟩
  repeat (first | exact W6.out | refine Below.setCell ?_ (by simp; try omega) _)

set_option maxHeartbeats 1600000 in
theorem refByDownB (l h s t v1 v2 : Int) (hk : Hid (chk l h s = 0)) (n0 : 0 < t) (n2 : t ≤ 1000000) (hz : 1 ≤ siz l h s) (hv1 : Hid (v1 = if s < 0 then h - (siz l h s - 1) * magA s else l + (siz l h s - 1) * magA s)) (hv2 : Hid (v2 = if s < 0 then h - (siz l h s - 1 - (siz l h s - 1) / t * t) * magA s else l + (siz l h s - 1 - (siz l h s - 1) / t * t) * magA s)) (o2 : v2 < v1) : Ret4 29 l h s (-t) (nL v2 v1) (nH v2 v1) (nS v2 v1 (magA s * t) true) 0 := by
  obtain ⟨b1, b2, b3, b4, b5, b6, b7, b8⟩ := chk_bounds hk.out
  have z0 := siz_bd hk.out
  have n0' : (-t == 0) = false := by simp; omega
  have n0'' : (t == 0) = false := by simp; omega
  have nt : -t < 0 := by omega
  have nt2 : ¬ 0 < -t := by omega
  have nt3 : ¬ t < 0 := by omega
  have hz' : (siz l h s == 0) = false := by simp; omega
  have q := quo_bd (siz l h s - 1) t (by omega) (by omega)
  have q2 : 0 ≤ (siz l h s - 1) / t * t ∧ (siz l h s - 1) / t * t ≤ siz l h s - 1 := by
    have e := ediv_mul (siz l h s - 1) t
    have r := rem_bd (siz l h s - 1) t (by omega) (by omega)
    rw [e]; omega
  have p := mul_le (magA s) t 2000000 1000000 b7 b8 (by omega) n2
  have o1 : ¬ v1 < v2 := by omega
  intro w
  go_enter Try.func29, Try.ntmps29
  go_wp2_with fail
  refine (refCheck_ok l h s _ hk).mono ?_
  rintro e w1 ⟨rfl, hb1⟩
  obtain ⟨W1, z1, ⟨x0, x1, x2⟩, Y, Fz⟩ := res2 hb1
  have Y1 := Lib.hid Y
  have F1 := Lib.hid Fz
  clear hb1 Y Fz
  go_wp2_with fail
  refine (within_yes _ _ (by omega) (by omega)).mono ?_
  rintro e w' ⟨rfl, rfl⟩
  go_wp2_with fail
  refine (refSize_any l h s _ ⟨by omega, by omega⟩ ⟨by omega, by omega⟩ ⟨by omega, by omega⟩).mono ?_
  rintro e w2 ⟨rfl, hb2⟩
  have W2 := hidTrans W1 hb2 (by omega)
  obtain ⟨z2, u0, u1, u2⟩ := keep3 hb2 (show w.heap.size < w1.heap.size by omega) x0 x1 x2
  have G2 := Lib.hid (keepF hb2 z1 Y1.out F1.out)
  have z2' := hb2.size
  clear hb2 W1 x0 x1 x2
  go_wp2_with fail
  refine (refNthV l h s _ v1 _ hk (by omega) (by omega) hv1).mono ?_
  rintro e w3 ⟨rfl, hb3⟩
  have W3 := hidTrans W2 hb3 (by omega)
  obtain ⟨z3, u0, u1, u2⟩ := keep3 hb3 z2 u0 u1 u2
  have G3 := Lib.hid (keepF hb3 (by omega) G2.out.1 G2.out.2)
  have z3' := hb3.size
  clear hb3 W2
  go_wp2_with fail
  refine (refNthV l h s _ v2 _ hk (by omega) (by omega) hv2).mono ?_
  rintro e w4 ⟨rfl, hb4⟩
  have W4 := hidTrans W3 hb4 (by omega)
  obtain ⟨z4, u0, u1, u2⟩ := keep3 hb4 z3 u0 u1 u2
  have G4 := Lib.hid (keepF hb4 (by omega) G3.out.1 G3.out.2)
  have z4' := hb4.size
  clear hb4 W3
  go_wp2_with fail
  refine (refStep_any _ _ _ _ (by omega) (by omega)).mono ?_
  rintro e w5 ⟨rfl, hb5⟩
  have W5 := hidTrans W4 hb5 (by omega)
  have G5 := Lib.hid (keepF hb5 (by omega) G4.out.1 G4.out.2)
  have z5' := hb5.size
  clear hb5 W4
  go_wp2_with fail
  refine (refNormal_any _ _ _ _ _ (by omega) (by omega)).mono ?_
  rintro e w6 ⟨rfl, hb6⟩
  have W6 := hidTrans W5 hb6 (by omega)
  obtain ⟨⟨g0, g1, g2⟩, f0, f1, f2⟩ := keepF hb6 (by omega) G5.out.1 G5.out.2
  clear hb6 W5
  go_wp2
  refine bodyPost_ret (v := .tuple #[.agg #[.int .i64 (nL v2 v1), .int .i64 (nH v2 v1), .int .i64 (nS v2 v1 (magA s * t) true)], .int .i64 0]) (by simp [results, Try.results29, go_sem, *]) rfl ⟨rfl, ?_⟩
  repeat (first | exact W6.out | refine Below.setCell ?_ (by simp; try omega) _)

set_option maxHeartbeats 1600000 in
theorem refByUpC (l h s n v1 : Int) (hk : Hid (chk l h s = 0)) (n0 : 0 < n) (n2 : n ≤ 1000000) (hz : 1 ≤ siz l h s) (hv1 : Hid (v1 = if s < 0 then h - 0 * magA s else l + 0 * magA s)) (hv2 : Hid (v1 = if s < 0 then h - ((siz l h s - 1) / n * n) * magA s else l + ((siz l h s - 1) / n * n) * magA s)) : Ret4 29 l h s n (nL v1 v1) (nH v1 v1) (nS v1 v1 (magA s * n) false) 0 := by
  obtain ⟨b1, b2, b3, b4, b5, b6, b7, b8⟩ := chk_bounds hk.out
  have z0 := siz_bd hk.out
  have n1 : -1000000 ≤ n := by omega
  have n0' : (n == 0) = false := by simp; omega
  have n3 : ¬ n < 0 := by omega
  have hz' : (siz l h s == 0) = false := by simp; omega
  have q := quo_bd (siz l h s - 1) n (by omega) (by omega)
  have q2 : 0 ≤ (siz l h s - 1) / n * n ∧ (siz l h s - 1) / n * n ≤ siz l h s - 1 := by
    have e := ediv_mul (siz l h s - 1) n
    have r := rem_bd (siz l h s - 1) n (by omega) (by omega)
    rw [e]; omega
  have p := mul_le (magA s) n 2000000 1000000 b7 b8 (by omega) n2
  have o1 : ¬ v1 < v1 := by omega
  intro w
  go_enter Try.func29, Try.ntmps29
  go_wp2_with fail
  refine (refCheck_ok l h s _ hk).mono ?_
  rintro e w1 ⟨rfl, hb1⟩
  obtain ⟨W1, z1, ⟨x0, x1, x2⟩, Y, Fz⟩ := res2 hb1
  have Y1 := Lib.hid Y
  have F1 := Lib.hid Fz
  clear hb1 Y Fz
  go_wp2_with fail
  refine (within_yes _ _ n1 n2).mono ?_
  rintro e w' ⟨rfl, rfl⟩
  go_wp2_with fail
  refine (refSize_any l h s _ ⟨by omega, by omega⟩ ⟨by omega, by omega⟩ ⟨by omega, by omega⟩).mono ?_
  rintro e w2 ⟨rfl, hb2⟩
  have W2 := hidTrans W1 hb2 (by omega)
  obtain ⟨z2, u0, u1, u2⟩ := keep3 hb2 (show w.heap.size < w1.heap.size by omega) x0 x1 x2
  have G2 := Lib.hid (keepF hb2 z1 Y1.out F1.out)
  have z2' := hb2.size
  clear hb2 W1 x0 x1 x2
  go_wp2_with fail
  refine (refNthV l h s _ v1 _ hk (by omega) (by omega) hv1).mono ?_
  rintro e w3 ⟨rfl, hb3⟩
  have W3 := hidTrans W2 hb3 (by omega)
  obtain ⟨z3, u0, u1, u2⟩ := keep3 hb3 z2 u0 u1 u2
  have G3 := Lib.hid (keepF hb3 (by omega) G2.out.1 G2.out.2)
  have z3' := hb3.size
  clear hb3 W2
  go_wp2_with fail
  refine (refNthV l h s _ v1 _ hk (by omega) (by omega) hv2).mono ?_
  rintro e w4 ⟨rfl, hb4⟩
  have W4 := hidTrans W3 hb4 (by omega)
  obtain ⟨z4, u0, u1, u2⟩ := keep3 hb4 z3 u0 u1 u2
  have G4 := Lib.hid (keepF hb4 (by omega) G3.out.1 G3.out.2)
  have z4' := hb4.size
  clear hb4 W3
  go_wp2_with fail
  refine (refStep_any _ _ _ _ (by omega) (by omega)).mono ?_
  rintro e w5 ⟨rfl, hb5⟩
  have W5 := hidTrans W4 hb5 (by omega)
  have G5 := Lib.hid (keepF hb5 (by omega) G4.out.1 G4.out.2)
  have z5' := hb5.size
  clear hb5 W4
  go_wp2_with fail
  refine (refNormal_any _ _ _ _ _ (by omega) (by omega)).mono ?_
  rintro e w6 ⟨rfl, hb6⟩
  have W6 := hidTrans W5 hb6 (by omega)
  obtain ⟨⟨g0, g1, g2⟩, f0, f1, f2⟩ := keepF hb6 (by omega) G5.out.1 G5.out.2
  clear hb6 W5
  go_wp2
  refine bodyPost_ret (v := .tuple #[.agg #[.int .i64 (nL v1 v1), .int .i64 (nH v1 v1), .int .i64 (nS v1 v1 (magA s * n) false)], .int .i64 0]) (by simp [results, Try.results29, go_sem, *]) rfl ⟨rfl, ?_⟩
  repeat (first | exact W6.out | refine Below.setCell ?_ (by simp; try omega) _)

set_option maxHeartbeats 1600000 in
theorem refByDownC (l h s t v1 : Int) (hk : Hid (chk l h s = 0)) (n0 : 0 < t) (n2 : t ≤ 1000000) (hz : 1 ≤ siz l h s) (hv1 : Hid (v1 = if s < 0 then h - (siz l h s - 1) * magA s else l + (siz l h s - 1) * magA s)) (hv2 : Hid (v1 = if s < 0 then h - (siz l h s - 1 - (siz l h s - 1) / t * t) * magA s else l + (siz l h s - 1 - (siz l h s - 1) / t * t) * magA s)) : Ret4 29 l h s (-t) (nL v1 v1) (nH v1 v1) (nS v1 v1 (magA s * t) false) 0 := by
  obtain ⟨b1, b2, b3, b4, b5, b6, b7, b8⟩ := chk_bounds hk.out
  have z0 := siz_bd hk.out
  have n0' : (-t == 0) = false := by simp; omega
  have n0'' : (t == 0) = false := by simp; omega
  have nt : -t < 0 := by omega
  have nt2 : ¬ 0 < -t := by omega
  have nt3 : ¬ t < 0 := by omega
  have hz' : (siz l h s == 0) = false := by simp; omega
  have q := quo_bd (siz l h s - 1) t (by omega) (by omega)
  have q2 : 0 ≤ (siz l h s - 1) / t * t ∧ (siz l h s - 1) / t * t ≤ siz l h s - 1 := by
    have e := ediv_mul (siz l h s - 1) t
    have r := rem_bd (siz l h s - 1) t (by omega) (by omega)
    rw [e]; omega
  have p := mul_le (magA s) t 2000000 1000000 b7 b8 (by omega) n2
  have o1 : ¬ v1 < v1 := by omega
  intro w
  go_enter Try.func29, Try.ntmps29
  go_wp2_with fail
  refine (refCheck_ok l h s _ hk).mono ?_
  rintro e w1 ⟨rfl, hb1⟩
  obtain ⟨W1, z1, ⟨x0, x1, x2⟩, Y, Fz⟩ := res2 hb1
  have Y1 := Lib.hid Y
  have F1 := Lib.hid Fz
  clear hb1 Y Fz
  go_wp2_with fail
  refine (within_yes _ _ (by omega) (by omega)).mono ?_
  rintro e w' ⟨rfl, rfl⟩
  go_wp2_with fail
  refine (refSize_any l h s _ ⟨by omega, by omega⟩ ⟨by omega, by omega⟩ ⟨by omega, by omega⟩).mono ?_
  rintro e w2 ⟨rfl, hb2⟩
  have W2 := hidTrans W1 hb2 (by omega)
  obtain ⟨z2, u0, u1, u2⟩ := keep3 hb2 (show w.heap.size < w1.heap.size by omega) x0 x1 x2
  have G2 := Lib.hid (keepF hb2 z1 Y1.out F1.out)
  have z2' := hb2.size
  clear hb2 W1 x0 x1 x2
  go_wp2_with fail
  refine (refNthV l h s _ v1 _ hk (by omega) (by omega) hv1).mono ?_
  rintro e w3 ⟨rfl, hb3⟩
  have W3 := hidTrans W2 hb3 (by omega)
  obtain ⟨z3, u0, u1, u2⟩ := keep3 hb3 z2 u0 u1 u2
  have G3 := Lib.hid (keepF hb3 (by omega) G2.out.1 G2.out.2)
  have z3' := hb3.size
  clear hb3 W2
  go_wp2_with fail
  refine (refNthV l h s _ v1 _ hk (by omega) (by omega) hv2).mono ?_
  rintro e w4 ⟨rfl, hb4⟩
  have W4 := hidTrans W3 hb4 (by omega)
  obtain ⟨z4, u0, u1, u2⟩ := keep3 hb4 z3 u0 u1 u2
  have G4 := Lib.hid (keepF hb4 (by omega) G3.out.1 G3.out.2)
  have z4' := hb4.size
  clear hb4 W3
  go_wp2_with fail
  refine (refStep_any _ _ _ _ (by omega) (by omega)).mono ?_
  rintro e w5 ⟨rfl, hb5⟩
  have W5 := hidTrans W4 hb5 (by omega)
  have G5 := Lib.hid (keepF hb5 (by omega) G4.out.1 G4.out.2)
  have z5' := hb5.size
  clear hb5 W4
  go_wp2_with fail
  refine (refNormal_any _ _ _ _ _ (by omega) (by omega)).mono ?_
  rintro e w6 ⟨rfl, hb6⟩
  have W6 := hidTrans W5 hb6 (by omega)
  obtain ⟨⟨g0, g1, g2⟩, f0, f1, f2⟩ := keepF hb6 (by omega) G5.out.1 G5.out.2
  clear hb6 W5
  go_wp2
  refine bodyPost_ret (v := .tuple #[.agg #[.int .i64 (nL v1 v1), .int .i64 (nH v1 v1), .int .i64 (nS v1 v1 (magA s * t) false)], .int .i64 0]) (by simp [results, Try.results29, go_sem, *]) rfl ⟨rfl, ?_⟩
  repeat (first | exact W6.out | refine Below.setCell ?_ (by simp; try omega) _)

end Go.Proofs.Ytdifilndpilboaa
