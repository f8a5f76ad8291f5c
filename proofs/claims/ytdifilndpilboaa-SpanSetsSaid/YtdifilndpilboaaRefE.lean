/-
  The contracts of the reference's Nth and Of.
-/
import Derived.Test.YtdifilndpilboaaRefD
import Derived.WalkKit
import Derived.WalkSpells
import Derived.WalkLawsBesides
import Derived.Lib.Hide
namespace Go.Proofs.Ytdifilndpilboaa
open Go.RowKit

set_option maxHeartbeats 400000 in
theorem refNth_bad (l h s k : Int) (w : World) (hl : I64 l) (hh : I64 h) (hs : I64 s) (hk : ¬ chk l h s = 0) :
    Calls Try.prog 18 #[.agg #[.int .i64 l, .int .i64 h, .int .i64 s], .int .i64 k] w fun e w' => e = .returned (.tuple #[.int .i64 0, .int .i64 (chk l h s)]) ∧ Below w.heap.size w w' := by
  have hn : (chk l h s != 0) = true := by simp [hk]
  clear hk
  go_enter Try.func18, Try.ntmps18
  go_wp2_with fail
  refine (refCheck_any l h s _ hl hh hs).mono ?_
  rintro e w1 ⟨rfl, hb1⟩
  obtain ⟨W1, s1, x0, x1, x2⟩ := box3 hb1
  clear hb1
  go_wp2
  go_ret2
  exact ⟨rfl, W1.out⟩

set_option maxHeartbeats 400000 in
theorem refNth_neg (l h s k : Int) (w : World) (hk : Hid (chk l h s = 0)) (hn : k < 0) :
    Calls Try.prog 18 #[.agg #[.int .i64 l, .int .i64 h, .int .i64 s], .int .i64 k] w fun e w' => e = .returned (.tuple #[.int .i64 0, .int .i64 4]) ∧ Below w.heap.size w w' := by
  go_enter Try.func18, Try.ntmps18
  go_wp2_with fail
  refine (refCheck_ok l h s _ hk).mono ?_
  rintro e w1 ⟨rfl, hb1⟩
  obtain ⟨W1, s1, x0, x1, x2⟩ := box3 hb1
  clear hb1
  go_wp2
  go_ret2
  exact ⟨rfl, W1.out⟩

set_option maxHeartbeats 400000 in
theorem refNth_over (l h s k : Int) (w : World) (hk : Hid (chk l h s = 0)) (h0 : 0 ≤ k) (h1 : siz l h s ≤ k) :
    Calls Try.prog 18 #[.agg #[.int .i64 l, .int .i64 h, .int .i64 s], .int .i64 k] w fun e w' => e = .returned (.tuple #[.int .i64 0, .int .i64 4]) ∧ Below w.heap.size w w' := by
  obtain ⟨b1, b2, b3, b4, b5, b6, b7, b8⟩ := chk_bounds hk.out
  go_enter Try.func18, Try.ntmps18
  go_wp2_with fail
  refine (refCheck_ok l h s _ hk).mono ?_
  rintro e w1 ⟨rfl, hb1⟩
  obtain ⟨W1, s1, x0, x1, x2⟩ := box3 hb1
  clear hb1
  go_wp2_with fail
  refine (refSize_any _ _ _ _ ⟨by omega, by omega⟩ ⟨by omega, by omega⟩ ⟨by omega, by omega⟩).mono ?_
  rintro e w2 ⟨rfl, hb2⟩
  have W2 := hidTrans W1 hb2 (by omega)
  clear hb2 W1 x0 x1 x2 s1
  go_wp2
  go_ret2
  exact ⟨rfl, W2.out⟩

set_option maxHeartbeats 400000 in
theorem refNth_good (l h s k : Int) (w : World) (hk : Hid (chk l h s = 0)) (hle : l ≤ h) (h0 : 0 ≤ k) (h1 : k < siz l h s) :
    Calls Try.prog 18 #[.agg #[.int .i64 l, .int .i64 h, .int .i64 s], .int .i64 k] w fun e w' => e = .returned (.tuple #[.int .i64 (if s < 0 then h - k * magA s else l + k * magA s), .int .i64 0]) ∧ Below w.heap.size w w' := by
  obtain ⟨b1, b2, b3, b4, b5, b6, b7, b8⟩ := chk_bounds hk.out
  have hm := mul_bd k (h - l) (magA s) h0 (by rw [← siz_ok hk.out hle]; exact h1) b7
  have h2 : ¬ siz l h s ≤ k := by omega
  by_cases c4 : s < 0
  · rw [if_pos c4]
    have e1 : k * magA s = -(k * s) := by rw [magA_neg c4, Int.mul_neg]
    rw [e1] at hm ⊢
    have E := Lib.hid (show h + k * s = h - -(k * s) by omega)
    clear e1
    go_enter Try.func18, Try.ntmps18
    go_wp2_with fail
    refine (refCheck_ok l h s _ hk).mono ?_
    rintro e w1 ⟨rfl, hb1⟩
    obtain ⟨W1, s1, x0, x1, x2⟩ := box3 hb1
    clear hb1
    go_wp2_with fail
    refine (refSize_any _ _ _ _ ⟨by omega, by omega⟩ ⟨by omega, by omega⟩ ⟨by omega, by omega⟩).mono ?_
    rintro e w2 ⟨rfl, hb2⟩
    have W2 := hidTrans W1 hb2 (by omega)
    obtain ⟨s2, y0, y1, y2⟩ := keep3 hb2 s1 x0 x1 x2
    clear hb2 W1 x0 x1 x2 s1
    go_wp2
    go_ret2
    exact ⟨by rw [← E.out]; rfl, W2.out⟩
  · rw [if_neg c4]
    have e1 : magA s = s := magA_pos (by omega)
    rw [e1] at hm ⊢
    clear e1
    go_enter Try.func18, Try.ntmps18
    go_wp2_with fail
    refine (refCheck_ok l h s _ hk).mono ?_
    rintro e w1 ⟨rfl, hb1⟩
    obtain ⟨W1, s1, x0, x1, x2⟩ := box3 hb1
    clear hb1
    go_wp2_with fail
    refine (refSize_any _ _ _ _ ⟨by omega, by omega⟩ ⟨by omega, by omega⟩ ⟨by omega, by omega⟩).mono ?_
    rintro e w2 ⟨rfl, hb2⟩
    have W2 := hidTrans W1 hb2 (by omega)
    obtain ⟨s2, y0, y1, y2⟩ := keep3 hb2 s1 x0 x1 x2
    clear hb2 W1 x0 x1 x2 s1
    go_wp2
    go_ret2
    exact ⟨rfl, W2.out⟩

theorem refNth_any (l h s k : Int) (w : World) (hl : I64 l) (hh : I64 h) (hs : I64 s) :
    Calls Try.prog 18 #[.agg #[.int .i64 l, .int .i64 h, .int .i64 s], .int .i64 k] w fun e w' => e = .returned (.tuple #[.int .i64 (nthN l h s k), .int .i64 (nthE l h s k)]) ∧ Below w.heap.size w w' := by
  by_cases hk : chk l h s = 0
  · by_cases h0 : 0 ≤ k
    · by_cases h1 : k < siz l h s
      · have hle : l ≤ h := by
          by_cases hle : l ≤ h
          · exact hle
          · have : siz l h s = 0 := if_neg (fun c => hle c.2)
            omega
        have e1 : nthE l h s k = 0 := by unfold nthE; rw [if_pos hk, if_pos ⟨h0, h1⟩]
        exact (refNth_good l h s k w hk hle h0 h1).mono fun _ _ ⟨he, hb⟩ => ⟨by rw [he]; unfold nthN; rw [e1]; simp, hb⟩
      · have e1 : nthE l h s k = 4 := by unfold nthE; rw [if_pos hk, if_neg (fun c => h1 c.2)]
        exact (refNth_over l h s k w hk h0 (by omega)).mono fun _ _ ⟨he, hb⟩ => ⟨by rw [he]; unfold nthN; rw [e1]; simp, hb⟩
    · have e1 : nthE l h s k = 4 := by unfold nthE; rw [if_pos hk, if_neg (fun c => h0 c.1)]
      exact (refNth_neg l h s k w hk (by omega)).mono fun _ _ ⟨he, hb⟩ => ⟨by rw [he]; unfold nthN; rw [e1]; simp, hb⟩
  · have e1 : nthE l h s k = chk l h s := if_neg hk
    exact (refNth_bad l h s k w hl hh hs hk).mono fun _ _ ⟨he, hb⟩ => ⟨by rw [he]; unfold nthN; rw [e1]; simp [hk], hb⟩

set_option maxHeartbeats 400000 in
theorem refOf_zero (lo hi : Int) (w : World) :
    Calls Try.prog 16 #[.int .i64 lo, .int .i64 hi, .int .i64 0] w fun e w' => e = .returned (.tuple #[.agg #[.int .i64 0, .int .i64 0, .int .i64 0], .int .i64 1]) ∧ Below w.heap.size w w' := by
  go_enter Try.func16, Try.ntmps16
  go_wp2
  refine bodyPost_ret (v := .tuple #[.agg #[.int .i64 0, .int .i64 0, .int .i64 0], .int .i64 1]) (by simp [results, Try.results16, go_sem]) rfl ⟨rfl, ?_⟩
  repeat (first | exact Below.refl _ _ | refine Below.alloc ?_ (by simp; try omega) _ | refine Below.setCell ?_ (by simp; try omega) _)

set_option maxHeartbeats 400000 in
theorem refOf_out (lo hi st : Int) (w : World) (h0 : ¬ st = 0) (h : ¬ ((-1000000 ≤ lo ∧ lo ≤ 1000000) ∧ (-1000000 ≤ hi ∧ hi ≤ 1000000) ∧ (-1000000 ≤ st ∧ st ≤ 1000000))) :
    Calls Try.prog 16 #[.int .i64 lo, .int .i64 hi, .int .i64 st] w fun e w' => e = .returned (.tuple #[.agg #[.int .i64 0, .int .i64 0, .int .i64 0], .int .i64 4]) ∧ Below w.heap.size w w' := by
  have h0' : (st == 0) = false := by simp [h0]
  by_cases c1 : -1000000 ≤ lo ∧ lo ≤ 1000000
  · by_cases c2 : -1000000 ≤ hi ∧ hi ≤ 1000000
    · have c3 : ¬ (-1000000 ≤ st ∧ st ≤ 1000000) := fun c3 => h ⟨c1, c2, c3⟩
      have C3 := Lib.hid c3
      obtain ⟨d1, d2⟩ := c1
      obtain ⟨d3, d4⟩ := c2
      clear h c3
      go_enter Try.func16, Try.ntmps16
      go_wp2_with fail
      refine (within_yes _ _ d1 d2).mono ?_
      rintro e w' ⟨rfl, rfl⟩
      go_wp2_with fail
      refine (within_yes _ _ d3 d4).mono ?_
      rintro e w' ⟨rfl, rfl⟩
      go_wp2_with fail
      refine (within_no _ _ C3.out).mono ?_
      rintro e w' ⟨rfl, rfl⟩
      go_wp2
      refine bodyPost_ret (v := .tuple #[.agg #[.int .i64 0, .int .i64 0, .int .i64 0], .int .i64 4]) (by simp [results, Try.results16, go_sem]) rfl ⟨rfl, ?_⟩
      repeat (first | exact Below.refl _ _ | refine Below.alloc ?_ (by simp; try omega) _ | refine Below.setCell ?_ (by simp; try omega) _)
    · have C3 := Lib.hid c2
      obtain ⟨d1, d2⟩ := c1
      clear h c2
      go_enter Try.func16, Try.ntmps16
      go_wp2_with fail
      refine (within_yes _ _ d1 d2).mono ?_
      rintro e w' ⟨rfl, rfl⟩
      go_wp2_with fail
      refine (within_no _ _ C3.out).mono ?_
      rintro e w' ⟨rfl, rfl⟩
      go_wp2
      refine bodyPost_ret (v := .tuple #[.agg #[.int .i64 0, .int .i64 0, .int .i64 0], .int .i64 4]) (by simp [results, Try.results16, go_sem]) rfl ⟨rfl, ?_⟩
      repeat (first | exact Below.refl _ _ | refine Below.alloc ?_ (by simp; try omega) _ | refine Below.setCell ?_ (by simp; try omega) _)
  · have C3 := Lib.hid c1
    clear h c1
    go_enter Try.func16, Try.ntmps16
    go_wp2_with fail
    refine (within_no _ _ C3.out).mono ?_
    rintro e w' ⟨rfl, rfl⟩
    go_wp2
    refine bodyPost_ret (v := .tuple #[.agg #[.int .i64 0, .int .i64 0, .int .i64 0], .int .i64 4]) (by simp [results, Try.results16, go_sem]) rfl ⟨rfl, ?_⟩
    repeat (first | exact Below.refl _ _ | refine Below.alloc ?_ (by simp; try omega) _ | refine Below.setCell ?_ (by simp; try omega) _)

/-- the result block as the call's first block -/
theorem res1 {w w1 : World} {t : TypeId} {a b c : Value} (hb : Below (w.alloc (.cells #[a, b, c] t)).heap.size (w.alloc (.cells #[a, b, c] t)) w1) :
    Hid (Below w.heap.size w w1) ∧ w.heap.size < w1.heap.size ∧ (w1.cell? ⟨w.heap.size, 0, none⟩ = some a ∧ w1.cell? ⟨w.heap.size, 1, none⟩ = some b ∧ w1.cell? ⟨w.heap.size, 2, none⟩ = some c) ∧
      (w1.frozen? ⟨w.heap.size, 0, none⟩ = false ∧ w1.frozen? ⟨w.heap.size, 1, none⟩ = false ∧ w1.frozen? ⟨w.heap.size, 2, none⟩ = false) := by
  have hs : w.heap.size < (w.alloc (.cells #[a, b, c] t)).heap.size := by simp
  obtain ⟨W, s, x0, x1, x2⟩ := box3 hb
  refine ⟨W, s, ⟨x0, x1, x2⟩, ?_, ?_, ?_⟩
  · rw [hb.frozen (p := ⟨w.heap.size, 0, none⟩) hs]; simp [go_sem]
  · rw [hb.frozen (p := ⟨w.heap.size, 1, none⟩) hs]; simp [go_sem]
  · rw [hb.frozen (p := ⟨w.heap.size, 2, none⟩) hs]; simp [go_sem]

theorem ediv_mul (a m : Int) : a / m * m = a - a % m := by
  have := Int.mul_ediv_add_emod a m
  rw [Int.mul_comm] at this; omega

set_option maxHeartbeats 800000 in
theorem refOf_in (lo hi st : Int) (w : World) (h0 : ¬ st = 0) (d1 : -1000000 ≤ lo) (d2 : lo ≤ 1000000) (d3 : -1000000 ≤ hi) (d4 : hi ≤ 1000000) (d5 : -1000000 ≤ st) (d6 : st ≤ 1000000) :
    Calls Try.prog 16 #[.int .i64 lo, .int .i64 hi, .int .i64 st] w fun e w' => e = .returned (.tuple #[.agg #[.int .i64 (nL (ofLo lo hi st) (ofHi lo hi st)), .int .i64 (nH (ofLo lo hi st) (ofHi lo hi st)), .int .i64 (nS (ofLo lo hi st) (ofHi lo hi st) (magA st) (decide (st < 0)))], .int .i64 0]) ∧ Below w.heap.size w w' := by
  have h0' : (st == 0) = false := by simp [h0]
  by_cases c1 : lo ≤ hi
  · by_cases c2 : st < 0
    · obtain ⟨t, rfl⟩ : ∃ t, st = -t := ⟨-st, by omega⟩
      have c6 : 0 < t := by omega
      have c7 : ¬ -t = 0 := by omega
      have d7 : t ≤ 1000000 := by omega
      have c5 : decide (-t < 0) = true := by simp; omega
      have E := Lib.hid (show ofLo lo hi (-t) = hi - (hi - lo) / t * t ∧ ofHi lo hi (-t) = hi ∧ magA (-t) = t from ⟨by unfold ofLo; rw [if_pos ⟨c1, c2⟩, magA_neg c2, Int.neg_neg, ediv_mul]; omega, if_neg (fun c => c.2 c2), by rw [magA_neg c2, Int.neg_neg]⟩)
      have r := rem_bd (hi - lo) t (by omega) (by omega)
      have r2 := Lib.hid (ediv_mul (hi - lo) t)
      have r3 : 0 ≤ (hi - lo) / t * t ∧ (hi - lo) / t * t ≤ hi - lo := by rw [r2.out]; omega
      have r4 := quo_bd (hi - lo) t (by omega) (by omega)
      have h0'' : (-t == 0) = false := by simp; omega
      clear r h0'
      rw [E.out.1, E.out.2.1, E.out.2.2, c5]
      go_enter Try.func16, Try.ntmps16
      go_wp2_with fail
      refine (within_yes _ _ d1 d2).mono ?_
      rintro e w' ⟨rfl, rfl⟩
      go_wp2_with fail
      refine (within_yes _ _ d3 d4).mono ?_
      rintro e w' ⟨rfl, rfl⟩
      go_wp2_with fail
      refine (within_yes _ _ (by omega) (by omega)).mono ?_
      rintro e w' ⟨rfl, rfl⟩
      go_wp2_with fail
      refine (refNormal_any _ _ _ _ _ (by omega) (by omega)).mono ?_
      rintro e w1 ⟨rfl, hb1⟩
      obtain ⟨W1, s1, ⟨x0, x1, x2⟩, z0, z1, z2⟩ := res1 hb1
      clear hb1
      go_wp2
      refine bodyPost_ret (v := .tuple #[.agg #[.int .i64 (nL (hi - (hi - lo) / t * t) hi), .int .i64 (nH (hi - (hi - lo) / t * t) hi), .int .i64 (nS (hi - (hi - lo) / t * t) hi t true)], .int .i64 0]) (by simp [results, Try.results16, go_sem, *]) rfl ⟨rfl, ?_⟩
      repeat (first | exact W1.out | refine Below.alloc ?_ (by simp; try omega) _ | refine Below.setCell ?_ (by simp; try omega) _)
    · have c5 : decide (st < 0) = false := by simp; omega
      have E := Lib.hid (show ofLo lo hi st = lo ∧ ofHi lo hi st = lo + (hi - lo) / st * st ∧ magA st = st from ⟨if_neg (fun c => c2 c.2), by unfold ofHi; rw [if_pos ⟨c1, c2⟩, magA_pos (by omega), ediv_mul]; omega, magA_pos (by omega)⟩)
      have r := rem_bd (hi - lo) st (by omega) (by omega)
      have r2 := Lib.hid (ediv_mul (hi - lo) st)
      have r3 : 0 ≤ (hi - lo) / st * st ∧ (hi - lo) / st * st ≤ hi - lo := by rw [r2.out]; omega
      have r4 := quo_bd (hi - lo) st (by omega) (by omega)
      clear r
      rw [E.out.1, E.out.2.1, E.out.2.2, c5]
      go_enter Try.func16, Try.ntmps16
      go_wp2_with fail
      refine (within_yes _ _ d1 d2).mono ?_
      rintro e w' ⟨rfl, rfl⟩
      go_wp2_with fail
      refine (within_yes _ _ d3 d4).mono ?_
      rintro e w' ⟨rfl, rfl⟩
      go_wp2_with fail
      refine (within_yes _ _ d5 d6).mono ?_
      rintro e w' ⟨rfl, rfl⟩
      go_wp2_with fail
      refine (refNormal_any _ _ _ _ _ (by omega) (by omega)).mono ?_
      rintro e w1 ⟨rfl, hb1⟩
      obtain ⟨W1, s1, ⟨x0, x1, x2⟩, z0, z1, z2⟩ := res1 hb1
      clear hb1
      go_wp2
      refine bodyPost_ret (v := .tuple #[.agg #[.int .i64 (nL lo (lo + (hi - lo) / st * st)), .int .i64 (nH lo (lo + (hi - lo) / st * st)), .int .i64 (nS lo (lo + (hi - lo) / st * st) st false)], .int .i64 0]) (by simp [results, Try.results16, go_sem, *]) rfl ⟨rfl, ?_⟩
      repeat (first | exact W1.out | refine Below.alloc ?_ (by simp; try omega) _ | refine Below.setCell ?_ (by simp; try omega) _)
  · have E := Lib.hid (show nL (ofLo lo hi st) (ofHi lo hi st) = 1 ∧ nH (ofLo lo hi st) (ofHi lo hi st) = 0 ∧ nS (ofLo lo hi st) (ofHi lo hi st) (magA st) (decide (st < 0)) = 1 by
      have e1 : ofLo lo hi st = lo := if_neg (fun c => c1 c.1)
      have e2 : ofHi lo hi st = hi := if_neg (fun c => c1 c.1)
      rw [e1, e2]
      exact ⟨if_pos (by omega), if_pos (by omega), if_pos (by omega)⟩)
    rw [E.out.1, E.out.2.1, E.out.2.2]
    go_enter Try.func16, Try.ntmps16
    go_wp2_with fail
    refine (within_yes _ _ d1 d2).mono ?_
    rintro e w' ⟨rfl, rfl⟩
    go_wp2_with fail
    refine (within_yes _ _ d3 d4).mono ?_
    rintro e w' ⟨rfl, rfl⟩
    go_wp2_with fail
    refine (within_yes _ _ d5 d6).mono ?_
    rintro e w' ⟨rfl, rfl⟩
    go_wp2_with fail
    refine (refEmpty_any _).mono ?_
    rintro e w1 ⟨rfl, rfl⟩
    go_wp2
    refine bodyPost_ret (v := .tuple #[.agg #[.int .i64 1, .int .i64 0, .int .i64 1], .int .i64 0]) (by simp [results, Try.results16, go_sem]) rfl ⟨rfl, ?_⟩
    repeat (first | exact Below.refl _ _ | refine Below.alloc ?_ (by simp; try omega) _ | refine Below.setCell ?_ (by simp; try omega) _)

theorem refOf_any (lo hi st : Int) (w : World) :
    Calls Try.prog 16 #[.int .i64 lo, .int .i64 hi, .int .i64 st] w fun e w' => e = .returned (.tuple #[.agg #[.int .i64 (ofL lo hi st), .int .i64 (ofH lo hi st), .int .i64 (ofS lo hi st)], .int .i64 (ofE lo hi st)]) ∧ Below w.heap.size w w' := by
  by_cases h0 : st = 0
  · subst h0
    have e : ofE lo hi 0 = 1 := if_pos rfl
    exact (refOf_zero lo hi w).mono fun _ _ ⟨he, hb⟩ => ⟨by rw [he]; unfold ofL ofH ofS; rw [e]; rfl, hb⟩
  · by_cases h : (-1000000 ≤ lo ∧ lo ≤ 1000000) ∧ (-1000000 ≤ hi ∧ hi ≤ 1000000) ∧ (-1000000 ≤ st ∧ st ≤ 1000000)
    · have e : ofE lo hi st = 0 := by unfold ofE; rw [if_neg h0, if_pos h]
      obtain ⟨⟨d1, d2⟩, ⟨d3, d4⟩, d5, d6⟩ := h
      exact (refOf_in lo hi st w h0 d1 d2 d3 d4 d5 d6).mono fun _ _ ⟨he, hb⟩ => ⟨by rw [he]; unfold ofL ofH ofS; rw [e]; rfl, hb⟩
    · have e : ofE lo hi st = 4 := by unfold ofE; rw [if_neg h0, if_neg h]
      exact (refOf_out lo hi st w h0 h).mono fun _ _ ⟨he, hb⟩ => ⟨by rw [he]; unfold ofL ofH ofS; rw [e]; rfl, hb⟩
end Go.Proofs.Ytdifilndpilboaa
