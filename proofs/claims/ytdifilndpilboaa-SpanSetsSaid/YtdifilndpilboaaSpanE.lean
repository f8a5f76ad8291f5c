/-
  The contracts of span.Nth and span.Of, for all ints.
-/
import Derived.Test.YtdifilndpilboaaSpanD
import Derived.WalkKit
import Derived.WalkSpells
import Derived.WalkLawsBesides
import Derived.Lib.Hide
namespace Go.Proofs.Ytdifilndpilboaa
open Go.RowKit

/-- the error of Nth -/
def nthE (l h s k : Int) : Int := if chk l h s = 0 then (if 0 ≤ k ∧ k < siz l h s then 0 else 4) else chk l h s
/-- the number of Nth -/
def nthN (l h s k : Int) : Int := if nthE l h s k = 0 then (if s < 0 then h - k * magA s else l + k * magA s) else 0

theorem siz_ok {l h s : Int} (hk : chk l h s = 0) (hle : l ≤ h) : siz l h s = (h - l) / magA s + 1 := if_pos ⟨hk, hle⟩

theorem mul_bd (k d m : Int) (h0 : 0 ≤ k) (h1 : k < d / m + 1) (hm : 1 ≤ m) : 0 ≤ k * m ∧ k * m ≤ d := by
  refine ⟨Int.mul_nonneg h0 (by omega), ?_⟩
  have h2 : k ≤ d / m := by omega
  exact (Int.le_ediv_iff_mul_le (by omega)).1 h2

theorem le_of_chk {l h s : Int} (hk : chk l h s = 0) (hn : ¬ l ≤ h) : l = 1 ∧ h = 0 ∧ s = 1 := by
  rcases chk_zero hk with a | ⟨a1, a2, _⟩
  · exact a
  · omega

set_option maxHeartbeats 400000 in
theorem nth_bad (l h s k : Int) (w : World) (hl : I64 l) (hh : I64 h) (hs : I64 s) (hk : ¬ chk l h s = 0) :
    Calls Try.prog 17 #[.agg #[.int .i64 l, .int .i64 h, .int .i64 s], .int .i64 k] w fun e w' => e = .returned (.tuple #[.int .i64 0, .int .i64 (chk l h s)]) ∧ Below w.heap.size w w' := by
  have hn : (chk l h s != 0) = true := by simp [hk]
  clear hk
  go_enter Try.func17, Try.ntmps17
  go_wp2_with fail
  refine (check64 l h s _ hl hh hs).mono ?_
  rintro e w1 ⟨rfl, hb1⟩
  obtain ⟨W1, s1, x0, x1, x2⟩ := box3 hb1
  clear hb1
  go_wp2
  go_ret2
  exact ⟨rfl, W1.out⟩

set_option maxHeartbeats 400000 in
theorem nth_neg (l h s k : Int) (w : World) (hk : chk l h s = 0) (hn : k < 0) :
    Calls Try.prog 17 #[.agg #[.int .i64 l, .int .i64 h, .int .i64 s], .int .i64 k] w fun e w' => e = .returned (.tuple #[.int .i64 0, .int .i64 4]) ∧ Below w.heap.size w w' := by
  obtain ⟨b1, b2, b3, b4, b5, b6, b7, b8⟩ := chk_bounds hk
  have HK := Lib.hid hk
  clear hk
  go_enter Try.func17, Try.ntmps17
  go_wp2_with fail
  refine (check_ok l h s _ ⟨by omega, by omega⟩ ⟨by omega, by omega⟩ ⟨by omega, by omega⟩ HK).mono ?_
  rintro e w1 ⟨rfl, hb1⟩
  obtain ⟨W1, s1, x0, x1, x2⟩ := box3 hb1
  clear hb1
  go_wp2_with fail
  refine (open_any _ _ _ _ (by omega) (by omega)).mono ?_
  rintro e w2 ⟨rfl, hb2⟩
  have W2 := hidTrans W1 hb2 (by omega)
  have s2 := hb2.size
  clear hb2 W1 x0 x1 x2
  go_wp2
  go_ret2
  exact ⟨rfl, W2.out.alloc (by omega) _⟩

set_option maxHeartbeats 400000 in
theorem nth_empty (k : Int) (w : World) (hn : 0 ≤ k) :
    Calls Try.prog 17 #[.agg #[.int .i64 1, .int .i64 0, .int .i64 1], .int .i64 k] w fun e w' => e = .returned (.tuple #[.int .i64 0, .int .i64 4]) ∧ Below w.heap.size w w' := by
  go_enter Try.func17, Try.ntmps17
  go_wp2_with fail
  refine (check_ok 1 0 1 _ ⟨by omega, by omega⟩ ⟨by omega, by omega⟩ ⟨by omega, by omega⟩ (Lib.hid (show chk 1 0 1 = 0 by decide))).mono ?_
  rintro e w1 ⟨rfl, hb1⟩
  obtain ⟨W1, s1, x0, x1, x2⟩ := box3 hb1
  clear hb1
  go_wp2_with fail
  refine (open_empty _).mono ?_
  rintro e w2 ⟨rfl, hb2⟩
  have W2 := hidTrans W1 hb2 (by omega)
  have s2 := hb2.size
  clear hb2 W1 x0 x1 x2
  go_wp2_with fail
  refine (size_empty _).mono ?_
  rintro e w3 ⟨rfl, hb3⟩
  have W3 := hidTrans (Lib.hid (W2.out.alloc (by omega) _)) hb3 (by simp; omega)
  clear hb3 W2
  go_wp2
  go_ret2
  exact ⟨rfl, W3.out⟩

theorem size_flag (l h s : Int) (dn : Bool) (w : World) (h0 : 1 ≤ s) (h1 : l ≤ h) (h2 : -4000000 ≤ l) (h3 : h ≤ 4000000) (n : Int) (hn : Hid (n = (h - l) / s + 1)) :
    Calls Try.prog 101 #[.agg #[.int .i64 l, .int .i64 h, .int .i64 s, .bool dn]] w fun e w' => e = .returned (.int .i64 n) ∧ Below w.heap.size w w' :=
  (size_any l h s dn w h0 h1 h2 h3).mono fun _ _ ⟨he, hb⟩ => ⟨by rw [he, hn.out], hb⟩

theorem box4 {w w1 : World} {t : TypeId} {a b c d : Value} (hb : Below (w.alloc (.cells #[a, b, c, d] t)).heap.size (w.alloc (.cells #[a, b, c, d] t)) w1) :
    Hid (Below w.heap.size w w1) ∧ w.heap.size < w1.heap.size ∧ w1.cell? ⟨w.heap.size, 0, none⟩ = some a ∧ w1.cell? ⟨w.heap.size, 1, none⟩ = some b ∧ w1.cell? ⟨w.heap.size, 2, none⟩ = some c ∧ w1.cell? ⟨w.heap.size, 3, none⟩ = some d := by
  have hs : w.heap.size < (w.alloc (.cells #[a, b, c, d] t)).heap.size := by simp
  refine ⟨((Below.refl _ _).alloc (Nat.le_refl _) _).trans (hb.mono (by omega)), Nat.lt_of_lt_of_le hs hb.size, ?_, ?_, ?_, ?_⟩
  · rw [hb.cell (p := ⟨w.heap.size, 0, none⟩) hs]; simp [go_sem]
  · rw [hb.cell (p := ⟨w.heap.size, 1, none⟩) hs]; simp [go_sem]
  · rw [hb.cell (p := ⟨w.heap.size, 2, none⟩) hs]; simp [go_sem]
  · rw [hb.cell (p := ⟨w.heap.size, 3, none⟩) hs]; simp [go_sem]

set_option maxHeartbeats 400000 in
theorem nth_over (l h s k : Int) (w : World) (hk : chk l h s = 0) (hle : l ≤ h) (h0 : 0 ≤ k) (h1 : siz l h s ≤ k) :
    Calls Try.prog 17 #[.agg #[.int .i64 l, .int .i64 h, .int .i64 s], .int .i64 k] w fun e w' => e = .returned (.tuple #[.int .i64 0, .int .i64 4]) ∧ Below w.heap.size w w' := by
  obtain ⟨b1, b2, b3, b4, b5, b6, b7, b8⟩ := chk_bounds hk
  have HS := Lib.hid (siz_ok hk hle)
  have HK := Lib.hid hk
  clear hk
  go_enter Try.func17, Try.ntmps17
  go_wp2_with fail
  refine (check_ok l h s _ ⟨by omega, by omega⟩ ⟨by omega, by omega⟩ ⟨by omega, by omega⟩ HK).mono ?_
  rintro e w1 ⟨rfl, hb1⟩
  obtain ⟨W1, s1, x0, x1, x2⟩ := box3 hb1
  clear hb1
  go_wp2_with fail
  refine (open_any _ _ _ _ (by omega) (by omega)).mono ?_
  rintro e w2 ⟨rfl, hb2⟩
  have W2 := hidTrans W1 hb2 (by omega)
  have s2 := hb2.size
  clear hb2 W1 x0 x1 x2
  go_wp2_with fail
  refine (size_flag _ _ _ _ _ b7 hle (by omega) (by omega) _ HS).mono ?_
  rintro e w3 ⟨rfl, hb3⟩
  obtain ⟨W3, s3, x0, x1, x2, x3⟩ := box4 hb3
  have W4 := hidTrans W2 W3.out (by omega)
  clear hb3 W2 W3
  go_wp2
  go_ret2
  exact ⟨rfl, W4.out⟩

set_option maxHeartbeats 400000 in
theorem nth_good (l h s k : Int) (w : World) (hk : chk l h s = 0) (hle : l ≤ h) (h0 : 0 ≤ k) (h1 : k < siz l h s) :
    Calls Try.prog 17 #[.agg #[.int .i64 l, .int .i64 h, .int .i64 s], .int .i64 k] w fun e w' => e = .returned (.tuple #[.int .i64 (if s < 0 then h - k * magA s else l + k * magA s), .int .i64 0]) ∧ Below w.heap.size w w' := by
  obtain ⟨b1, b2, b3, b4, b5, b6, b7, b8⟩ := chk_bounds hk
  have HS := Lib.hid (siz_ok hk hle)
  have hm := mul_bd k (h - l) (magA s) h0 (by have := HS.out; omega) b7
  have h2 : ¬ siz l h s ≤ k := by omega
  have HK := Lib.hid hk
  clear hk
  by_cases c4 : s < 0
  · rw [if_pos c4]
    have c5 : decide (s < 0) = true := by simp [c4]
    go_enter Try.func17, Try.ntmps17
    go_wp2_with fail
    refine (check_ok l h s _ ⟨by omega, by omega⟩ ⟨by omega, by omega⟩ ⟨by omega, by omega⟩ HK).mono ?_
    rintro e w1 ⟨rfl, hb1⟩
    obtain ⟨W1, s1, x0, x1, x2⟩ := box3 hb1
    clear hb1
    go_wp2_with fail
    refine (open_any _ _ _ _ (by omega) (by omega)).mono ?_
    rintro e w2 ⟨rfl, hb2⟩
    have W2 := hidTrans W1 hb2 (by omega)
    have s2 := hb2.size
    clear hb2 W1 x0 x1 x2
    go_wp2_with fail
    refine (size_flag _ _ _ _ _ b7 hle (by omega) (by omega) _ HS).mono ?_
    rintro e w3 ⟨rfl, hb3⟩
    obtain ⟨W3, s3, x0, x1, x2, x3⟩ := box4 hb3
    have W4 := hidTrans W2 W3.out (by omega)
    clear hb3 W2 W3
    go_wp2_with fail
    refine (nth_down _ _ _ _ _ (by omega) (by omega) (by omega) (by omega)).mono ?_
    rintro e w4 ⟨rfl, hb4⟩
    have W5 := hidTrans W4 hb4 (by omega)
    clear hb4 W4
    go_wp2
    go_ret2
    exact ⟨rfl, W5.out⟩
  · rw [if_neg c4]
    have c5 : decide (s < 0) = false := by simp; omega
    go_enter Try.func17, Try.ntmps17
    go_wp2_with fail
    refine (check_ok l h s _ ⟨by omega, by omega⟩ ⟨by omega, by omega⟩ ⟨by omega, by omega⟩ HK).mono ?_
    rintro e w1 ⟨rfl, hb1⟩
    obtain ⟨W1, s1, x0, x1, x2⟩ := box3 hb1
    clear hb1
    go_wp2_with fail
    refine (open_any _ _ _ _ (by omega) (by omega)).mono ?_
    rintro e w2 ⟨rfl, hb2⟩
    have W2 := hidTrans W1 hb2 (by omega)
    have s2 := hb2.size
    clear hb2 W1 x0 x1 x2
    go_wp2_with fail
    refine (size_flag _ _ _ _ _ b7 hle (by omega) (by omega) _ HS).mono ?_
    rintro e w3 ⟨rfl, hb3⟩
    obtain ⟨W3, s3, x0, x1, x2, x3⟩ := box4 hb3
    have W4 := hidTrans W2 W3.out (by omega)
    clear hb3 W2 W3
    go_wp2_with fail
    refine (nth_up _ _ _ _ _ (by omega) (by omega) (by omega) (by omega)).mono ?_
    rintro e w4 ⟨rfl, hb4⟩
    have W5 := hidTrans W4 hb4 (by omega)
    clear hb4 W4
    go_wp2
    go_ret2
    exact ⟨rfl, W5.out⟩

theorem Nth_any (l h s k : Int) (w : World) (hl : I64 l) (hh : I64 h) (hs : I64 s) :
    Calls Try.prog 17 #[.agg #[.int .i64 l, .int .i64 h, .int .i64 s], .int .i64 k] w fun e w' => e = .returned (.tuple #[.int .i64 (nthN l h s k), .int .i64 (nthE l h s k)]) ∧ Below w.heap.size w w' := by
  by_cases hk : chk l h s = 0
  · by_cases h0 : 0 ≤ k
    · by_cases hle : l ≤ h
      · by_cases h1 : k < siz l h s
        · have e1 : nthE l h s k = 0 := by unfold nthE; rw [if_pos hk, if_pos ⟨h0, h1⟩]
          exact (nth_good l h s k w hk hle h0 h1).mono fun _ _ ⟨he, hb⟩ => ⟨by rw [he]; unfold nthN; rw [e1]; simp, hb⟩
        · have e1 : nthE l h s k = 4 := by unfold nthE; rw [if_pos hk, if_neg (fun c => h1 c.2)]
          exact (nth_over l h s k w hk hle h0 (by omega)).mono fun _ _ ⟨he, hb⟩ => ⟨by rw [he]; unfold nthN; rw [e1]; simp, hb⟩
      · obtain ⟨rfl, rfl, rfl⟩ := le_of_chk hk hle
        have e0 : siz 1 0 1 = 0 := by decide
        have e1 : nthE 1 0 1 k = 4 := by unfold nthE; rw [if_pos hk, e0, if_neg (by omega)]
        exact (nth_empty k w h0).mono fun _ _ ⟨he, hb⟩ => ⟨by rw [he]; unfold nthN; rw [e1]; simp, hb⟩
    · have e1 : nthE l h s k = 4 := by unfold nthE; rw [if_pos hk, if_neg (fun c => h0 c.1)]
      exact (nth_neg l h s k w hk (by omega)).mono fun _ _ ⟨he, hb⟩ => ⟨by rw [he]; unfold nthN; rw [e1]; simp, hb⟩
  · have e1 : nthE l h s k = chk l h s := if_neg hk
    exact (nth_bad l h s k w hl hh hs hk).mono fun _ _ ⟨he, hb⟩ => ⟨by rw [he]; unfold nthN; rw [e1]; simp [hk], hb⟩

/-- the error of Of -/
def ofE (lo hi st : Int) : Int := if st = 0 then 1 else if (-1000000 ≤ lo ∧ lo ≤ 1000000) ∧ (-1000000 ≤ hi ∧ hi ≤ 1000000) ∧ (-1000000 ≤ st ∧ st ≤ 1000000) then 0 else 4
def ofLo (lo hi st : Int) : Int := if lo ≤ hi ∧ st < 0 then lo + (hi - lo) % magA st else lo
def ofHi (lo hi st : Int) : Int := if lo ≤ hi ∧ ¬ st < 0 then hi - (hi - lo) % magA st else hi
/-- the range of Of -/
def ofL (lo hi st : Int) : Int := if ofE lo hi st = 0 then nL (ofLo lo hi st) (ofHi lo hi st) else 0
def ofH (lo hi st : Int) : Int := if ofE lo hi st = 0 then nH (ofLo lo hi st) (ofHi lo hi st) else 0
def ofS (lo hi st : Int) : Int := if ofE lo hi st = 0 then nS (ofLo lo hi st) (ofHi lo hi st) (magA st) (decide (st < 0)) else 0

theorem tup_eq {a b c d a' b' c' d' : Int} (h1 : a = a') (h2 : b = b') (h3 : c = c') (h4 : d = d') : Ending.returned (.tuple #[.agg #[.int .i64 a, .int .i64 b, .int .i64 c], .int .i64 d]) = .returned (.tuple #[.agg #[.int .i64 a', .int .i64 b', .int .i64 c'], .int .i64 d']) := by rw [h1, h2, h3, h4]

set_option maxHeartbeats 400000 in
theorem of_zero (lo hi : Int) (w : World) :
    Calls Try.prog 15 #[.int .i64 lo, .int .i64 hi, .int .i64 0] w fun e w' => e = .returned (.tuple #[.agg #[.int .i64 0, .int .i64 0, .int .i64 0], .int .i64 1]) ∧ Below w.heap.size w w' := by
  go_enter Try.func15, Try.ntmps15
  go_wp2
  refine bodyPost_ret (v := .tuple #[.agg #[.int .i64 0, .int .i64 0, .int .i64 0], .int .i64 1]) (by simp [results, Try.results15, go_sem]) rfl ⟨rfl, ?_⟩
  repeat (first | exact Below.refl _ _ | refine Below.alloc ?_ (by simp; try omega) _ | refine Below.setCell ?_ (by simp; try omega) _)

set_option maxHeartbeats 400000 in
theorem of_out (lo hi st : Int) (w : World) (h0 : ¬ st = 0) (h : ¬ ((-1000000 ≤ lo ∧ lo ≤ 1000000) ∧ (-1000000 ≤ hi ∧ hi ≤ 1000000) ∧ (-1000000 ≤ st ∧ st ≤ 1000000))) :
    Calls Try.prog 15 #[.int .i64 lo, .int .i64 hi, .int .i64 st] w fun e w' => e = .returned (.tuple #[.agg #[.int .i64 0, .int .i64 0, .int .i64 0], .int .i64 4]) ∧ Below w.heap.size w w' := by
  have h0' : (st == 0) = false := by simp [h0]
  by_cases c1 : -1000000 ≤ lo ∧ lo ≤ 1000000
  · by_cases c2 : -1000000 ≤ hi ∧ hi ≤ 1000000
    · have c3 : ¬ (-1000000 ≤ st ∧ st ≤ 1000000) := fun c3 => h ⟨c1, c2, c3⟩
      have C3 := Lib.hid c3
      obtain ⟨d1, d2⟩ := c1
      obtain ⟨d3, d4⟩ := c2
      clear h c3
      go_enter Try.func15, Try.ntmps15
      go_wp2_with fail
      refine (limited_yes _ _ d1 d2).mono ?_
      rintro e w' ⟨rfl, rfl⟩
      go_wp2_with fail
      refine (limited_yes _ _ d3 d4).mono ?_
      rintro e w' ⟨rfl, rfl⟩
      go_wp2_with fail
      refine (limited_no _ _ C3.out).mono ?_
      rintro e w' ⟨rfl, rfl⟩
      go_wp2
      refine bodyPost_ret (v := .tuple #[.agg #[.int .i64 0, .int .i64 0, .int .i64 0], .int .i64 4]) (by simp [results, Try.results15, go_sem]) rfl ⟨rfl, ?_⟩
      repeat (first | exact Below.refl _ _ | refine Below.alloc ?_ (by simp; try omega) _ | refine Below.setCell ?_ (by simp; try omega) _)
    · have C3 := Lib.hid c2
      obtain ⟨d1, d2⟩ := c1
      clear h c2
      go_enter Try.func15, Try.ntmps15
      go_wp2_with fail
      refine (limited_yes _ _ d1 d2).mono ?_
      rintro e w' ⟨rfl, rfl⟩
      go_wp2_with fail
      refine (limited_no _ _ C3.out).mono ?_
      rintro e w' ⟨rfl, rfl⟩
      go_wp2
      refine bodyPost_ret (v := .tuple #[.agg #[.int .i64 0, .int .i64 0, .int .i64 0], .int .i64 4]) (by simp [results, Try.results15, go_sem]) rfl ⟨rfl, ?_⟩
      repeat (first | exact Below.refl _ _ | refine Below.alloc ?_ (by simp; try omega) _ | refine Below.setCell ?_ (by simp; try omega) _)
  · have C3 := Lib.hid c1
    clear h c1
    go_enter Try.func15, Try.ntmps15
    go_wp2_with fail
    refine (limited_no _ _ C3.out).mono ?_
    rintro e w' ⟨rfl, rfl⟩
    go_wp2
    refine bodyPost_ret (v := .tuple #[.agg #[.int .i64 0, .int .i64 0, .int .i64 0], .int .i64 4]) (by simp [results, Try.results15, go_sem]) rfl ⟨rfl, ?_⟩
    repeat (first | exact Below.refl _ _ | refine Below.alloc ?_ (by simp; try omega) _ | refine Below.setCell ?_ (by simp; try omega) _)

theorem rem_bd (a m : Int) (h : 0 ≤ a) (hm : 1 ≤ m) : 0 ≤ a % m ∧ a % m ≤ a :=
  ⟨Int.emod_nonneg _ (by omega), by
    have := Int.mul_ediv_add_emod a m
    have h2 : 0 ≤ m * (a / m) := Int.mul_nonneg (by omega) (Int.ediv_nonneg h (by omega))
    omega⟩

/-- a block of three cells that the call itself made, behind another new block and a call -/
theorem res3 {w w1 : World} {t : TypeId} {a b c : Value} {o : Obj} (hb : Below ((w.alloc (.cells #[a, b, c] t)).alloc o).heap.size ((w.alloc (.cells #[a, b, c] t)).alloc o) w1) :
    Hid (Below w.heap.size w w1) ∧ w.heap.size < w1.heap.size ∧ (w1.cell? ⟨w.heap.size, 0, none⟩ = some a ∧ w1.cell? ⟨w.heap.size, 1, none⟩ = some b ∧ w1.cell? ⟨w.heap.size, 2, none⟩ = some c) ∧
      (w1.frozen? ⟨w.heap.size, 0, none⟩ = false ∧ w1.frozen? ⟨w.heap.size, 1, none⟩ = false ∧ w1.frozen? ⟨w.heap.size, 2, none⟩ = false) := by
  have hs : w.heap.size < ((w.alloc (.cells #[a, b, c] t)).alloc o).heap.size := by simp; omega
  refine ⟨(((Below.refl _ _).alloc (Nat.le_refl _) _).alloc (by simp) _).trans (hb.mono (by omega)), Nat.lt_of_lt_of_le hs hb.size, ⟨?_, ?_, ?_⟩, ?_, ?_, ?_⟩
  · rw [hb.cell (p := ⟨w.heap.size, 0, none⟩) hs]; simp [go_sem]
  · rw [hb.cell (p := ⟨w.heap.size, 1, none⟩) hs]; simp [go_sem]
  · rw [hb.cell (p := ⟨w.heap.size, 2, none⟩) hs]; simp [go_sem]
  · rw [hb.frozen (p := ⟨w.heap.size, 0, none⟩) hs]; simp [go_sem]
  · rw [hb.frozen (p := ⟨w.heap.size, 1, none⟩) hs]; simp [go_sem]
  · rw [hb.frozen (p := ⟨w.heap.size, 2, none⟩) hs]; simp [go_sem]

set_option maxHeartbeats 800000 in
theorem of_in (lo hi st : Int) (w : World) (h0 : ¬ st = 0) (d1 : -1000000 ≤ lo) (d2 : lo ≤ 1000000) (d3 : -1000000 ≤ hi) (d4 : hi ≤ 1000000) (d5 : -1000000 ≤ st) (d6 : st ≤ 1000000) :
    Calls Try.prog 15 #[.int .i64 lo, .int .i64 hi, .int .i64 st] w fun e w' => e = .returned (.tuple #[.agg #[.int .i64 (nL (ofLo lo hi st) (ofHi lo hi st)), .int .i64 (nH (ofLo lo hi st) (ofHi lo hi st)), .int .i64 (nS (ofLo lo hi st) (ofHi lo hi st) (magA st) (decide (st < 0)))], .int .i64 0]) ∧ Below w.heap.size w w' := by
  have h0' : (st == 0) = false := by simp [h0]
  have m1 : 1 ≤ magA st := by unfold magA; split <;> omega
  have m2 : magA st ≤ 1000000 := by unfold magA; split <;> omega
  by_cases c1 : lo ≤ hi
  · have r := rem_bd (hi - lo) (magA st) (by omega) m1
    by_cases c2 : st < 0
    · have c5 : decide (st < 0) = true := by simp [c2]
      have E := Lib.hid (show ofLo lo hi st = lo + (hi - lo) % magA st ∧ ofHi lo hi st = hi from ⟨if_pos ⟨c1, c2⟩, if_neg (fun c => c.2 c2)⟩)
      rw [E.out.1, E.out.2, c5]
      go_enter Try.func15, Try.ntmps15
      go_wp2_with fail
      refine (limited_yes _ _ d1 d2).mono ?_
      rintro e w' ⟨rfl, rfl⟩
      go_wp2_with fail
      refine (limited_yes _ _ d3 d4).mono ?_
      rintro e w' ⟨rfl, rfl⟩
      go_wp2_with fail
      refine (limited_yes _ _ d5 d6).mono ?_
      rintro e w' ⟨rfl, rfl⟩
      go_wp2_with fail
      refine (magnitude_any _ _ (by omega) (by omega)).mono ?_
      rintro e w' ⟨rfl, rfl⟩
      go_wp2_with fail
      refine (normal_any _ _ _ _ _ (by omega) (by omega)).mono ?_
      rintro e w1 ⟨rfl, hb1⟩
      obtain ⟨W1, s1, ⟨x0, x1, x2⟩, z0, z1, z2⟩ := res3 hb1
      clear hb1
      go_wp2
      refine bodyPost_ret (v := .tuple #[.agg #[.int .i64 (nL (lo + (hi - lo) % magA st) hi), .int .i64 (nH (lo + (hi - lo) % magA st) hi), .int .i64 (nS (lo + (hi - lo) % magA st) hi (magA st) true)], .int .i64 0]) (by simp [results, Try.results15, go_sem, *]) rfl ⟨rfl, ?_⟩
      repeat (first | exact W1.out | refine Below.alloc ?_ (by simp; try omega) _ | refine Below.setCell ?_ (by simp; try omega) _)
    · have c5 : decide (st < 0) = false := by simp; omega
      have E := Lib.hid (show ofLo lo hi st = lo ∧ ofHi lo hi st = hi - (hi - lo) % magA st from ⟨if_neg (fun c => c2 c.2), if_pos ⟨c1, c2⟩⟩)
      rw [E.out.1, E.out.2, c5]
      go_enter Try.func15, Try.ntmps15
      go_wp2_with fail
      refine (limited_yes _ _ d1 d2).mono ?_
      rintro e w' ⟨rfl, rfl⟩
      go_wp2_with fail
      refine (limited_yes _ _ d3 d4).mono ?_
      rintro e w' ⟨rfl, rfl⟩
      go_wp2_with fail
      refine (limited_yes _ _ d5 d6).mono ?_
      rintro e w' ⟨rfl, rfl⟩
      go_wp2_with fail
      refine (magnitude_any _ _ (by omega) (by omega)).mono ?_
      rintro e w' ⟨rfl, rfl⟩
      go_wp2_with fail
      refine (normal_any _ _ _ _ _ (by omega) (by omega)).mono ?_
      rintro e w1 ⟨rfl, hb1⟩
      obtain ⟨W1, s1, ⟨x0, x1, x2⟩, z0, z1, z2⟩ := res3 hb1
      clear hb1
      go_wp2
      refine bodyPost_ret (v := .tuple #[.agg #[.int .i64 (nL lo (hi - (hi - lo) % magA st)), .int .i64 (nH lo (hi - (hi - lo) % magA st)), .int .i64 (nS lo (hi - (hi - lo) % magA st) (magA st) false)], .int .i64 0]) (by simp [results, Try.results15, go_sem, *]) rfl ⟨rfl, ?_⟩
      repeat (first | exact W1.out | refine Below.alloc ?_ (by simp; try omega) _ | refine Below.setCell ?_ (by simp; try omega) _)
  · have E := Lib.hid (show ofLo lo hi st = lo ∧ ofHi lo hi st = hi from ⟨if_neg (fun c => c1 c.1), if_neg (fun c => c1 c.1)⟩)
    rw [E.out.1, E.out.2]
    go_enter Try.func15, Try.ntmps15
    go_wp2_with fail
    refine (limited_yes _ _ d1 d2).mono ?_
    rintro e w' ⟨rfl, rfl⟩
    go_wp2_with fail
    refine (limited_yes _ _ d3 d4).mono ?_
    rintro e w' ⟨rfl, rfl⟩
    go_wp2_with fail
    refine (limited_yes _ _ d5 d6).mono ?_
    rintro e w' ⟨rfl, rfl⟩
    go_wp2_with fail
    refine (magnitude_any _ _ (by omega) (by omega)).mono ?_
    rintro e w' ⟨rfl, rfl⟩
    go_wp2_with fail
    refine (normal_any _ _ _ _ _ (by omega) (by omega)).mono ?_
    rintro e w1 ⟨rfl, hb1⟩
    obtain ⟨W1, s1, ⟨x0, x1, x2⟩, z0, z1, z2⟩ := res3 hb1
    clear hb1
    go_wp2
    refine bodyPost_ret (v := .tuple #[.agg #[.int .i64 (nL lo hi), .int .i64 (nH lo hi), .int .i64 (nS lo hi (magA st) (decide (st < 0)))], .int .i64 0]) (by simp [results, Try.results15, go_sem, *]) rfl ⟨rfl, ?_⟩
    repeat (first | exact W1.out | refine Below.alloc ?_ (by simp; try omega) _ | refine Below.setCell ?_ (by simp; try omega) _)

theorem Of_any (lo hi st : Int) (w : World) :
    Calls Try.prog 15 #[.int .i64 lo, .int .i64 hi, .int .i64 st] w fun e w' => e = .returned (.tuple #[.agg #[.int .i64 (ofL lo hi st), .int .i64 (ofH lo hi st), .int .i64 (ofS lo hi st)], .int .i64 (ofE lo hi st)]) ∧ Below w.heap.size w w' := by
  by_cases h0 : st = 0
  · subst h0
    have e : ofE lo hi 0 = 1 := if_pos rfl
    exact (of_zero lo hi w).mono fun _ _ ⟨he, hb⟩ => ⟨by rw [he]; unfold ofL ofH ofS; rw [e]; rfl, hb⟩
  · by_cases h : (-1000000 ≤ lo ∧ lo ≤ 1000000) ∧ (-1000000 ≤ hi ∧ hi ≤ 1000000) ∧ (-1000000 ≤ st ∧ st ≤ 1000000)
    · have e : ofE lo hi st = 0 := by unfold ofE; rw [if_neg h0, if_pos h]
      obtain ⟨⟨d1, d2⟩, ⟨d3, d4⟩, d5, d6⟩ := h
      exact (of_in lo hi st w h0 d1 d2 d3 d4 d5 d6).mono fun _ _ ⟨he, hb⟩ => ⟨by rw [he]; unfold ofL ofH ofS; rw [e]; rfl, hb⟩
    · have e : ofE lo hi st = 4 := by unfold ofE; rw [if_neg h0, if_neg h]
      exact (of_out lo hi st w h0 h).mono fun _ _ ⟨he, hb⟩ => ⟨by rw [he]; unfold ofL ofH ofS; rw [e]; rfl, hb⟩
end Go.Proofs.Ytdifilndpilboaa
