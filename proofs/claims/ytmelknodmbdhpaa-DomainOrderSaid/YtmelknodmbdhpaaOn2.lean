/-
  Part 2: SpanG, SpanH, AlgM, AlgE, RefM.
-/
import Derived.Test.YtmelknodmbdhpaaOn1
import Derived.BigQuiet
import Derived.BigRegion
import Derived.Deep.DeepCutAuto
import Derived.Deep.DrawnRows
import Derived.Deep.LoopGhost
import Derived.Deep.QuietTactic
import Derived.Deep.RegionHeld3
import Derived.Lib.Hide
import Derived.WalkKit
import Derived.WalkLawsBesides
import Derived.WalkSpells
namespace Go.Proofs.Ytmelknodmbdhpaa
open Go.RowKit
theorem nL_64 (l h : Int) (hl : I64 l) : I64 (nL l h) := by unfold nL; split; exact ⟨by omega, by omega⟩; exact hl
theorem nH_64 (l h : Int) (hh : I64 h) : I64 (nH l h) := by unfold nH; split; exact ⟨by omega, by omega⟩; exact hh
theorem nS_64 (l h st : Int) (dn : Bool) (h1 : -4000000000000 ≤ st) (h2 : st ≤ 4000000000000) : I64 (nS l h st dn) := by
  unfold nS I64; split
  · omega
  · split
    · omega
    · split <;> omega
/-- the two blocks that a function lays first, behind a call: the box of its range and its result -/
theorem res2 {w w1 : World} {t t' : TypeId} {a b c a' b' c' : Value} (hb : Below ((w.alloc (.cells #[a, b, c] t)).alloc (.cells #[a', b', c'] t')).heap.size ((w.alloc (.cells #[a, b, c] t)).alloc (.cells #[a', b', c'] t')) w1) :
    Hid (Below w.heap.size w w1) ∧ w.heap.size + 1 < w1.heap.size ∧ (w1.cell? ⟨w.heap.size, 0, none⟩ = some a ∧ w1.cell? ⟨w.heap.size, 1, none⟩ = some b ∧ w1.cell? ⟨w.heap.size, 2, none⟩ = some c) ∧
      (w1.cell? ⟨w.heap.size + 1, 0, none⟩ = some a' ∧ w1.cell? ⟨w.heap.size + 1, 1, none⟩ = some b' ∧ w1.cell? ⟨w.heap.size + 1, 2, none⟩ = some c') ∧
      (w1.frozen? ⟨w.heap.size + 1, 0, none⟩ = false ∧ w1.frozen? ⟨w.heap.size + 1, 1, none⟩ = false ∧ w1.frozen? ⟨w.heap.size + 1, 2, none⟩ = false) := by
  have hs : w.heap.size + 1 < ((w.alloc (.cells #[a, b, c] t)).alloc (.cells #[a', b', c'] t')).heap.size := by simp
  have hs0 : w.heap.size < ((w.alloc (.cells #[a, b, c] t)).alloc (.cells #[a', b', c'] t')).heap.size := by simp; omega
  refine ⟨(((Below.refl _ _).alloc (Nat.le_refl _) _).alloc (by simp) _).trans (hb.mono (by omega)), Nat.lt_of_lt_of_le hs hb.size, ⟨?_, ?_, ?_⟩, ⟨?_, ?_, ?_⟩, ?_, ?_, ?_⟩
  · rw [hb.cell (p := ⟨w.heap.size, 0, none⟩) hs0]; simp [go_sem]
  · rw [hb.cell (p := ⟨w.heap.size, 1, none⟩) hs0]; simp [go_sem]
  · rw [hb.cell (p := ⟨w.heap.size, 2, none⟩) hs0]; simp [go_sem]
  · rw [hb.cell (p := ⟨w.heap.size + 1, 0, none⟩) hs]; simp [go_sem]
  · rw [hb.cell (p := ⟨w.heap.size + 1, 1, none⟩) hs]; simp [go_sem]
  · rw [hb.cell (p := ⟨w.heap.size + 1, 2, none⟩) hs]; simp [go_sem]
  · rw [hb.frozen (p := ⟨w.heap.size + 1, 0, none⟩) hs]; simp [go_sem]
  · rw [hb.frozen (p := ⟨w.heap.size + 1, 1, none⟩) hs]; simp [go_sem]
  · rw [hb.frozen (p := ⟨w.heap.size + 1, 2, none⟩) hs]; simp [go_sem]
/-- a block's three cells, and that they may be written, behind a further call -/
theorem keepF {B : Nat} {w w1 : World} {a b c : Value} (hb : Below w.heap.size w w1) (hs : B < w.heap.size) (x : w.cell? ⟨B, 0, none⟩ = some a ∧ w.cell? ⟨B, 1, none⟩ = some b ∧ w.cell? ⟨B, 2, none⟩ = some c)
    (z : w.frozen? ⟨B, 0, none⟩ = false ∧ w.frozen? ⟨B, 1, none⟩ = false ∧ w.frozen? ⟨B, 2, none⟩ = false) :
    (w1.cell? ⟨B, 0, none⟩ = some a ∧ w1.cell? ⟨B, 1, none⟩ = some b ∧ w1.cell? ⟨B, 2, none⟩ = some c) ∧ (w1.frozen? ⟨B, 0, none⟩ = false ∧ w1.frozen? ⟨B, 1, none⟩ = false ∧ w1.frozen? ⟨B, 2, none⟩ = false) :=
  ⟨⟨(hb.cell (p := ⟨B, 0, none⟩) hs).trans x.1, (hb.cell (p := ⟨B, 1, none⟩) hs).trans x.2.1, (hb.cell (p := ⟨B, 2, none⟩) hs).trans x.2.2⟩,
   (hb.frozen (p := ⟨B, 0, none⟩) hs).trans z.1, (hb.frozen (p := ⟨B, 1, none⟩) hs).trans z.2.1, (hb.frozen (p := ⟨B, 2, none⟩) hs).trans z.2.2⟩
/-- what a closure that captured one variable does with a progression -/
def Moves (fv : FuncId) (a : Addr) (vn : Value) (l h m : Int) (dn : Bool) (l' h' st' : Int) (dn' : Bool) : Prop :=
  ∀ w : World, w.cell? a = some vn → Calls Try.prog fv #[.agg #[.int .i64 l, .int .i64 h, .int .i64 m, .bool dn], .pointer (some a)] w fun e w' => e = .returned (.agg #[.int .i64 l', .int .i64 h', .int .i64 st', .bool dn']) ∧ Below w.heap.size w w'
set_option maxHeartbeats 800000 in
theorem moved_By (b o : Nat) (vn : Value) (l h s l' h' st' : Int) (dn' : Bool) (w : World) (hk : Hid (chk l h s = 0)) (hle : l ≤ h) (hc : w.cell? ⟨b, o, none⟩ = some vn)
    (hm : Moves 118 ⟨b, o, none⟩ vn l h (magA s) (decide (s < 0)) l' h' st' dn') (hl' : I64 l') (hh' : I64 h') (s1 : -4000000000000 ≤ st') (s2 : st' ≤ 4000000000000) (hr : Hid (chk (nL l' h') (nH l' h') (nS l' h' st' dn') = 0)) :
    Calls Try.prog 117 #[.agg #[.int .i64 l, .int .i64 h, .int .i64 s], .func (.func 118) #[] #[.pointer (some ⟨b, o, none⟩)]] w fun e w' => e = .returned (.tuple #[.agg #[.int .i64 (nL l' h'), .int .i64 (nH l' h'), .int .i64 (nS l' h' st' dn')], .int .i64 0]) ∧ Below w.heap.size w w' := by
  obtain ⟨b1, b2, b3, b4, b5, b6, b7, b8⟩ := chk_bounds hk.out
  have q := quo_bd (h - l) (magA s) (by omega) b7
  have hz : ((h - l) / magA s + 1 == 0) = false := by simp; omega
  have hlt : b < w.heap.size := World.block_lt_of_cell? w _ hc
  have HC := Lib.hid hc
  clear hc q
  go_enter Try.func117, Try.ntmps117
  go_wp2_with fail
  refine (check_ok l h s _ ⟨by omega, by omega⟩ ⟨by omega, by omega⟩ ⟨by omega, by omega⟩ hk).mono ?_
  rintro e w1 ⟨rfl, hb1⟩
  obtain ⟨W1, z1, ⟨x0, x1, x2⟩, Y, F⟩ := res2 hb1
  have Y1 := Lib.hid Y
  have F1 := Lib.hid F
  clear hb1 Y F
  go_wp2_with fail
  refine (size_ok l h s _ hk hle).mono ?_
  rintro e w2 ⟨rfl, hb2⟩
  have W2 := hidTrans W1 hb2 (by omega)
  obtain ⟨z2, y0, y1, y2⟩ := keep3 hb2 (show w.heap.size < w1.heap.size by omega) x0 x1 x2
  have G2 := Lib.hid (keepF hb2 z1 Y1.out F1.out)
  have z2' := hb2.size
  clear hb2 W1 x0 x1 x2
  go_wp2_with fail
  refine (open_any _ _ _ _ (by omega) (by omega)).mono ?_
  rintro e w3 ⟨rfl, hb3⟩
  have W3 := hidTrans W2 hb3 (by omega)
  have G3 := Lib.hid (keepF hb3 (by omega) G2.out.1 G2.out.2)
  have z3 := hb3.size
  clear hb3 W2 y0 y1 y2
  go_wp2_with fail
  refine (hm _ ((W3.out.cell (p := ⟨b, o, none⟩) hlt).trans HC.out)).mono ?_
  rintro e w4 ⟨rfl, hb4⟩
  have W4 := hidTrans W3 hb4 (by omega)
  have G4 := Lib.hid (keepF hb4 (by omega) G3.out.1 G3.out.2)
  have z4 := hb4.size
  clear hb4 W3
  go_wp2_with fail
  refine (normal_any _ _ _ _ _ s1 s2).mono ?_
  rintro e w5 ⟨rfl, hb5⟩
  have W5 := hidTrans W4 hb5 (by omega)
  have G5 := Lib.hid (keepF hb5 (by omega) G4.out.1 G4.out.2)
  have z5 := hb5.size
  clear hb5 W4
  go_wp2_with fail
  refine (check_ok _ _ _ _ (nL_64 l' h' hl') (nH_64 l' h' hh') (nS_64 l' h' st' dn' s1 s2) hr).mono ?_
  rintro e w6 ⟨rfl, hb6⟩
  obtain ⟨V6, z6, y0, y1, y2⟩ := box3 hb6
  have W6 := hidTrans W5 V6.out (by omega)
  have G6 := keepF V6.out (by omega) G5.out.1 G5.out.2
  obtain ⟨⟨g0, g1, g2⟩, f0, f1, f2⟩ := G6
  clear hb6 W5 V6
  go_wp2
  refine bodyPost_ret (v := .tuple #[.agg #[.int .i64 (nL l' h'), .int .i64 (nH l' h'), .int .i64 (nS l' h' st' dn')], .int .i64 0]) (by simp [results, Try.results117, go_sem, *]) rfl ⟨rfl, ?_⟩
  repeat (first | exact W6.out | refine Below.setCell ?_ (by simp; try omega) _)
end Go.Proofs.Ytmelknodmbdhpaa
namespace Go.Proofs.Ytmelknodmbdhpaa
open Go.RowKit
theorem sub_mod (a m : Int) : (a - a % m) % m = 0 := by
  have := Int.mul_ediv_add_emod a m
  have e : a - a % m = m * (a / m) := by omega
  rw [e]; exact Int.mul_emod_right _ _
/-- the error of a normal range of one number or more -/
theorem chk_nrm (l h st : Int) (dn : Bool) (h1 : l ≤ h) (h2 : 1 ≤ st) (h3 : (h - l) % st = 0) : chk (nL l h) (nH l h) (nS l h st dn) = if l < -1000000 ∨ 1000000 < h then 4 else 0 := by
  have e1 : nL l h = l := if_neg (by omega)
  have e2 : nH l h = h := if_neg (by omega)
  rw [e1, e2]
  have c1 : reqB l h (nS l h st dn) 1 0 1 = false := by unfold reqB; simp; omega
  have c2 : fmd l h (nS l h st dn) = true := by
    unfold fmd nS
    rw [if_neg (by omega)]
    by_cases c : l = h
    · simp [c]
    · rw [if_neg c]
      have d : l < h := by omega
      cases dn
      · have : st ≠ 0 := by omega
        simp [c, d, this, h3]
      · have : ¬ -st = 0 := by omega
        simp [c, d, h3, Int.emod_neg]; omega
  unfold chk; rw [c1, c2]; simp
theorem by_chk (l h m n : Int) (dn : Bool) (h0 : -1000000 ≤ l) (h1 : l ≤ h) (h2 : h ≤ 1000000) (h3 : 1 ≤ m * magA n) :
    chk (nL (byLo l h m dn n) (byHi l h m dn n)) (nH (byLo l h m dn n) (byHi l h m dn n)) (nS (byLo l h m dn n) (byHi l h m dn n) (m * magA n) (byDn dn n)) = 0 := by
  have r := rem_bd (h - l) (m * magA n) (by omega) h3
  have hs := sub_mod (h - l) (m * magA n)
  unfold byLo byHi
  cases byDn dn n
  · rw [if_neg (by simp), if_neg (by simp), chk_nrm _ _ _ _ (by omega) h3 (by rw [show h - (h - l) % (m * magA n) - l = h - l - (h - l) % (m * magA n) by omega]; exact hs), if_neg (by omega)]
  · rw [if_pos rfl, if_pos rfl, chk_nrm _ _ _ _ (by omega) h3 (by rw [show h - (l + (h - l) % (m * magA n)) = h - l - (h - l) % (m * magA n) by omega]; exact hs), if_neg (by omega)]
theorem by_64 (l h m n : Int) (dn : Bool) (h0 : -1000000 ≤ l) (h1 : l ≤ h) (h2 : h ≤ 1000000) (h3 : 1 ≤ m * magA n) : I64 (byLo l h m dn n) ∧ I64 (byHi l h m dn n) := by
  have r := rem_bd (h - l) (m * magA n) (by omega) h3
  unfold byLo byHi I64
  constructor <;> split <;> omega
/-- the three blocks that By lays first, behind a call -/
theorem res3b {w w1 : World} {t t' t'' : TypeId} {a b c d a' b' c' : Value} (hb : Below (((w.alloc (.cells #[a, b, c] t)).alloc (.cells #[d] t'')).alloc (.cells #[a', b', c'] t')).heap.size (((w.alloc (.cells #[a, b, c] t)).alloc (.cells #[d] t'')).alloc (.cells #[a', b', c'] t')) w1) :
    Hid (Below w.heap.size w w1) ∧ w.heap.size + 2 < w1.heap.size ∧ (w1.cell? ⟨w.heap.size, 0, none⟩ = some a ∧ w1.cell? ⟨w.heap.size, 1, none⟩ = some b ∧ w1.cell? ⟨w.heap.size, 2, none⟩ = some c) ∧ w1.cell? ⟨w.heap.size + 1, 0, none⟩ = some d ∧
      (w1.cell? ⟨w.heap.size + 1 + 1, 0, none⟩ = some a' ∧ w1.cell? ⟨w.heap.size + 1 + 1, 1, none⟩ = some b' ∧ w1.cell? ⟨w.heap.size + 1 + 1, 2, none⟩ = some c') ∧
      (w1.frozen? ⟨w.heap.size + 1 + 1, 0, none⟩ = false ∧ w1.frozen? ⟨w.heap.size + 1 + 1, 1, none⟩ = false ∧ w1.frozen? ⟨w.heap.size + 1 + 1, 2, none⟩ = false) := by
  have hs : w.heap.size + 1 + 1 < (((w.alloc (.cells #[a, b, c] t)).alloc (.cells #[d] t'')).alloc (.cells #[a', b', c'] t')).heap.size := by simp
  have hs0 : w.heap.size < (((w.alloc (.cells #[a, b, c] t)).alloc (.cells #[d] t'')).alloc (.cells #[a', b', c'] t')).heap.size := by simp <;> omega
  have hs1 : w.heap.size + 1 < (((w.alloc (.cells #[a, b, c] t)).alloc (.cells #[d] t'')).alloc (.cells #[a', b', c'] t')).heap.size := by simp <;> omega
  refine ⟨((((Below.refl _ _).alloc (Nat.le_refl _) _).alloc (by simp) _).alloc (by simp; omega) _).trans (hb.mono (by omega)), Nat.lt_of_lt_of_le hs hb.size, ⟨?_, ?_, ?_⟩, ?_, ⟨?_, ?_, ?_⟩, ?_, ?_, ?_⟩
  · rw [hb.cell (p := ⟨w.heap.size, 0, none⟩) hs0]; simp [go_sem]
  · rw [hb.cell (p := ⟨w.heap.size, 1, none⟩) hs0]; simp [go_sem]
  · rw [hb.cell (p := ⟨w.heap.size, 2, none⟩) hs0]; simp [go_sem]
  · rw [hb.cell (p := ⟨w.heap.size + 1, 0, none⟩) hs1]; simp [go_sem]
  · rw [hb.cell (p := ⟨w.heap.size + 1 + 1, 0, none⟩) hs]; simp [go_sem]
  · rw [hb.cell (p := ⟨w.heap.size + 1 + 1, 1, none⟩) hs]; simp [go_sem]
  · rw [hb.cell (p := ⟨w.heap.size + 1 + 1, 2, none⟩) hs]; simp [go_sem]
  · rw [hb.frozen (p := ⟨w.heap.size + 1 + 1, 0, none⟩) hs]; simp [go_sem]
  · rw [hb.frozen (p := ⟨w.heap.size + 1 + 1, 1, none⟩) hs]; simp [go_sem]
  · rw [hb.frozen (p := ⟨w.heap.size + 1 + 1, 2, none⟩) hs]; simp [go_sem]
set_option maxHeartbeats 800000 in
theorem By_ok (l h s n : Int) (w : World) (hk : Hid (chk l h s = 0)) (hle : l ≤ h) (n0 : ¬ n = 0) (n1 : -1000000 ≤ n) (n2 : n ≤ 1000000) :
    Calls Try.prog 31 #[.agg #[.int .i64 l, .int .i64 h, .int .i64 s], .int .i64 n] w fun e w' =>
      e = .returned (.tuple #[.agg #[.int .i64 (nL (byLo l h (magA s) (decide (s < 0)) n) (byHi l h (magA s) (decide (s < 0)) n)), .int .i64 (nH (byLo l h (magA s) (decide (s < 0)) n) (byHi l h (magA s) (decide (s < 0)) n)), .int .i64 (nS (byLo l h (magA s) (decide (s < 0)) n) (byHi l h (magA s) (decide (s < 0)) n) (magA s * magA n) (byDn (decide (s < 0)) n))], .int .i64 0]) ∧ Below w.heap.size w w' := by
  obtain ⟨b1, b2, b3, b4, b5, b6, b7, b8⟩ := chk_bounds hk.out
  have m1 : 1 ≤ magA n := by unfold magA; split <;> omega
  have m2 : magA n ≤ 1000000 := by unfold magA; split <;> omega
  have p := mul_le (magA s) (magA n) 2000000 1000000 b7 b8 m1 m2
  have R := Lib.hid (by_chk l h (magA s) n (decide (s < 0)) b1 hle (by omega) p.1)
  have B := Lib.hid (by_64 l h (magA s) n (decide (s < 0)) b1 hle (by omega) p.1)
  have n0' : (n == 0) = false := by simp [n0]
  go_enter Try.func31, Try.ntmps31
  go_wp2_with fail
  refine (check_ok l h s _ ⟨by omega, by omega⟩ ⟨by omega, by omega⟩ ⟨by omega, by omega⟩ hk).mono ?_
  rintro e w1 ⟨rfl, hb1⟩
  obtain ⟨W1, z1, ⟨x0, x1, x2⟩, xn, Y, F⟩ := res3b hb1
  have Y1 := Lib.hid Y
  have F1 := Lib.hid F
  clear hb1 Y F
  go_wp2_with fail
  refine (limited_yes _ _ n1 n2).mono ?_
  rintro e w' ⟨rfl, rfl⟩
  go_wp2_with fail
  refine (moved_By (w.heap.size + 1) 0 (.int .i64 n) l h s _ _ _ _ w1 hk hle xn (fun w' hw' => byClo l h (magA s) n (decide (s < 0)) (w.heap.size + 1) 0 w' hw' b1 hle (by omega) b7 b8 n0 n1 n2) B.out.1 B.out.2 (by omega) (by omega) R).mono ?_
  rintro e w2 ⟨rfl, hb2⟩
  have W2 := hidTrans W1 hb2 (by omega)
  obtain ⟨⟨y0, y1, y2⟩, f0, f1, f2⟩ := keepF hb2 z1 Y1.out F1.out
  clear hb2 W1 x0 x1 x2 xn
  go_wp2
  refine bodyPost_ret (v := .tuple #[.agg #[.int .i64 (nL (byLo l h (magA s) (decide (s < 0)) n) (byHi l h (magA s) (decide (s < 0)) n)), .int .i64 (nH (byLo l h (magA s) (decide (s < 0)) n) (byHi l h (magA s) (decide (s < 0)) n)), .int .i64 (nS (byLo l h (magA s) (decide (s < 0)) n) (byHi l h (magA s) (decide (s < 0)) n) (magA s * magA n) (byDn (decide (s < 0)) n))], .int .i64 0]) (by simp [results, Try.results31, go_sem, *]) rfl ⟨rfl, ?_⟩
  repeat (first | exact W2.out | refine Below.setCell ?_ (by simp; try omega) _)
end Go.Proofs.Ytmelknodmbdhpaa
namespace Go.Proofs.Ytmelknodmbdhpaa
/-- the numbers of a progression -/
def Mem (l h m n : Int) : Prop := l ≤ n ∧ n ≤ h ∧ m ∣ n - l
/-- what Euclid's algorithm keeps -/
structure EInv (a b r0 x0 r1 x1 : Int) : Prop where
  n0 : 0 ≤ r0
  n1 : 0 ≤ r1
  m0 : r0 ≤ 4000000
  m1 : r1 ≤ 4000000
  dv : ∀ d : Int, d ∣ r0 → d ∣ r1 → d ∣ a ∧ d ∣ b
  z0 : ∃ y, r0 = a * x0 + b * y
  z1 : ∃ y, r1 = a * x1 + b * y
  bd : ∃ u0 u1 : Int, 0 ≤ u0 ∧ 0 ≤ u1 ∧ u0 ≤ 4000001 ∧ u1 ≤ 4000001 ∧ u0 * r1 + u1 * r0 = b ∧ ((x0 = u0 ∧ x1 = -u1) ∨ (x0 = -u0 ∧ x1 = u1))
theorem EInv.start (a b : Int) (ha : 0 ≤ a) (hb : 0 ≤ b) (ha2 : a ≤ 4000000) (hb2 : b ≤ 4000000) : EInv a b a 1 b 0 :=
  ⟨ha, hb, ha2, hb2, fun _ h1 h2 => ⟨h1, h2⟩, ⟨0, by omega⟩, ⟨1, by omega⟩, ⟨1, 0, by omega, by omega, by omega, by omega, by omega, Or.inl ⟨rfl, rfl⟩⟩⟩
theorem EInv.x_bd {a b r0 x0 r1 x1 : Int} (h : EInv a b r0 x0 r1 x1) : -4000001 ≤ x0 ∧ x0 ≤ 4000001 ∧ -4000001 ≤ x1 ∧ x1 ≤ 4000001 := by
  obtain ⟨u0, u1, h0, h1, h2, h3, _, h5⟩ := h.bd
  omega
theorem EInv.q_bd {a b r0 x0 r1 x1 : Int} (h : EInv a b r0 x0 r1 x1) (hb2 : b ≤ 4000000) (hr : ¬ r1 = 0) :
    0 ≤ r0 / r1 ∧ r0 / r1 ≤ r0 ∧ 0 ≤ r0 / r1 * r1 ∧ r0 / r1 * r1 ≤ r0 ∧ -4000000 ≤ r0 / r1 * x1 ∧ r0 / r1 * x1 ≤ 4000000 := by
  have n0 := h.n0
  have n1 := h.n1
  have q := quo_bd r0 r1 n0 (by omega)
  have e := ediv_mul r0 r1
  have r := rem_bd r0 r1 n0 (by omega)
  obtain ⟨u0, u1, h0, h1, _, _, hu, h5⟩ := h.bd
  have p0 : 0 ≤ u0 * r1 := Int.mul_nonneg h0 n1
  have p1 : u1 * (r0 / r1) ≤ u1 * r0 := Int.mul_le_mul_of_nonneg_left q.2 h1
  have p2 : 0 ≤ u1 * (r0 / r1) := Int.mul_nonneg h1 q.1
  have c : r0 / r1 * u1 = u1 * (r0 / r1) := Int.mul_comm _ _
  have cn : r0 / r1 * -u1 = -(u1 * (r0 / r1)) := by rw [Int.mul_neg, c]
  refine ⟨q.1, q.2, by omega, by omega, ?_⟩
  rcases h5 with ⟨_, hx⟩ | ⟨_, hx⟩
  · rw [hx, cn]; omega
  · rw [hx, c]; omega
theorem EInv.step {a b r0 x0 r1 x1 : Int} (h : EInv a b r0 x0 r1 x1) (hb2 : b ≤ 4000000) (hr : ¬ r1 = 0) :
    EInv a b r1 x1 (r0 - r0 / r1 * r1) (x0 - r0 / r1 * x1) ∧ r0 - r0 / r1 * r1 < r1 := by
  have n0 := h.n0
  have n1 := h.n1
  have m0 := h.m0
  have m1 := h.m1
  have q := quo_bd r0 r1 n0 (by omega)
  have e := ediv_mul r0 r1
  have r := rem_bd r0 r1 n0 (by omega)
  have rl := Int.emod_lt_of_pos r0 (show 0 < r1 by omega)
  obtain ⟨u0, u1, h0, h1, h2, h3, hu, h5⟩ := h.bd
  obtain ⟨y0, z0⟩ := h.z0
  obtain ⟨y1, z1⟩ := h.z1
  have q2 := h.q_bd hb2 hr
  have c : r0 / r1 * u1 = u1 * (r0 / r1) := Int.mul_comm _ _
  have p0 : 0 ≤ u1 * (r0 / r1) := Int.mul_nonneg h1 q.1
  have key : u1 * (r0 - r0 / r1 * r1) + (u0 + u1 * (r0 / r1)) * r1 = b := by
    rw [Int.mul_sub, Int.add_mul, ← Int.mul_assoc]; omega
  have k1 : 0 ≤ u1 * (r0 - r0 / r1 * r1) := Int.mul_nonneg h1 (by omega)
  have k2 : (u0 + u1 * (r0 / r1)) * 1 ≤ (u0 + u1 * (r0 / r1)) * r1 := Int.mul_le_mul_of_nonneg_left (by omega) (by omega)
  refine ⟨⟨n1, by omega, m1, by omega, ?_, ⟨y1, z1⟩, ⟨y0 - r0 / r1 * y1, ?_⟩, ⟨u1, u0 + u1 * (r0 / r1), h1, by omega, h3, by omega, key, ?_⟩⟩, by omega⟩
  · intro d d1 d2
    refine h.dv d ?_ d1
    have : r0 = (r0 - r0 / r1 * r1) + r0 / r1 * r1 := by omega
    rw [this]
    exact Int.dvd_add d2 (Int.dvd_trans d1 (Int.dvd_mul_left _ _))
  · have e1 : a * (x0 - r0 / r1 * x1) = a * x0 - r0 / r1 * (a * x1) := by rw [Int.mul_sub, Int.mul_left_comm]
    have e2 : b * (y0 - r0 / r1 * y1) = b * y0 - r0 / r1 * (b * y1) := by rw [Int.mul_sub, Int.mul_left_comm]
    have e3 : r0 / r1 * r1 = r0 / r1 * (a * x1) + r0 / r1 * (b * y1) := by
      have := congrArg (fun t => r0 / r1 * t) z1
      simp only [Int.mul_add] at this
      exact this
    omega
  · rcases h5 with ⟨hx0, hx1⟩ | ⟨hx0, hx1⟩
    · right
      refine ⟨hx1, ?_⟩
      rw [hx0, hx1, Int.mul_neg, c]; omega
    · left
      refine ⟨hx1, ?_⟩
      rw [hx0, hx1, c]; omega
/-- what euclid returns -/
structure Gcd (a b d x : Int) : Prop where
  n : 0 ≤ d
  m : d ≤ 4000000
  da : d ∣ a
  db : d ∣ b
  z : ∃ y, d = a * x + b * y
  x1 : -4000001 ≤ x
  x2 : x ≤ 4000001
theorem EInv.done {a b r0 x0 x1 : Int} (h : EInv a b r0 x0 0 x1) : Gcd a b r0 x0 :=
  ⟨h.n0, h.m0, (h.dv r0 (Int.dvd_refl _) (Int.dvd_zero _)).1, (h.dv r0 (Int.dvd_refl _) (Int.dvd_zero _)).2, h.z0, h.x_bd.1, h.x_bd.2.1⟩
theorem Gcd.pos {a b d x : Int} (g : Gcd a b d x) (ha : 1 ≤ a) : 1 ≤ d := by
  have := g.n
  by_cases c : d = 0
  · have := g.da; rw [c] at this; have := Int.zero_dvd.1 this; omega
  · omega
theorem Gcd.le {a b d x : Int} (g : Gcd a b d x) (ha : 1 ≤ a) : d ≤ a := Int.le_of_dvd (by omega) g.da
theorem Gcd.le' {a b d x : Int} (g : Gcd a b d x) (hb : 1 ≤ b) : d ≤ b := Int.le_of_dvd (by omega) g.db
theorem Gcd.all {a b d x e : Int} (g : Gcd a b d x) (h1 : e ∣ a) (h2 : e ∣ b) : e ∣ d := by
  obtain ⟨y, hy⟩ := g.z
  rw [hy]
  exact Int.dvd_add (Int.dvd_trans h1 (Int.dvd_mul_right _ _)) (Int.dvd_trans h2 (Int.dvd_mul_right _ _))
/-- no common number, if the distance is no multiple of the divisor -/
theorem no_meet {l1 h1 s1 l2 h2 s2 d x n : Int} (g : Gcd s1 s2 d x) (hn : ¬ d ∣ l2 - l1) (m1 : Mem l1 h1 s1 n) (m2 : Mem l2 h2 s2 n) : False := by
  apply hn
  have e1 := Int.dvd_trans g.da m1.2.2
  have e2 := Int.dvd_trans g.db m2.2.2
  have := Int.dvd_sub e1 e2
  rwa [show n - l1 - (n - l2) = l2 - l1 by omega] at this
/-- the meeting point lies on both -/
theorem meets {l1 s1 l2 s2 d x t : Int} (g : Gcd s1 s2 d x) (hs : 1 ≤ s1) (hd : d ∣ l2 - l1) (ht : (s2 / d) ∣ (t - (l2 - l1) / d * x)) : s1 ∣ l1 + t * s1 - l1 ∧ s2 ∣ l1 + t * s1 - l2 := by
  have d1 := g.pos hs
  refine ⟨⟨t, by rw [Int.mul_comm]; omega⟩, ?_⟩
  obtain ⟨k, hk⟩ := hd
  obtain ⟨y, hy⟩ := g.z
  obtain ⟨s', hs'⟩ := g.db
  obtain ⟨a', ha'⟩ := g.da
  have e1 : s2 / d = s' := by rw [hs', Int.mul_ediv_cancel_left _ (by omega)]
  have e2 : (l2 - l1) / d = k := by rw [hk, Int.mul_ediv_cancel_left _ (by omega)]
  rw [e1, e2] at ht
  obtain ⟨j, hj⟩ := ht
  have et : t = s' * j + k * x := by omega
  -- l1 + t s1 - l2 = (s' j + k x) s1 - d k = s' j s1 + k (x s1 - d) = s' j d a' - k s2 y
  refine ⟨j * a' - k * y, ?_⟩
  have f1 : t * s1 = s' * j * s1 + k * x * s1 := by rw [et, Int.add_mul]
  have f2 : s' * j * s1 = s2 * (j * a') := by rw [ha', hs']; simp only [Int.mul_comm, Int.mul_left_comm]
  have f3 : k * x * s1 = k * d - k * (s2 * y) := by
    have : s1 * x = d - s2 * y := by omega
    rw [Int.mul_assoc, Int.mul_comm x s1, this, Int.mul_sub]
  have f4 : s2 * (j * a' - k * y) = s2 * (j * a') - k * (s2 * y) := by rw [Int.mul_sub, Int.mul_left_comm s2 k y]
  have f5 : k * d = d * k := Int.mul_comm _ _
  omega
/-- multiples of both are multiples of the common step -/
theorem lcm_dvd {s1 s2 d x n : Int} (g : Gcd s1 s2 d x) (hs : 1 ≤ s1) (h1 : s1 ∣ n) (h2 : s2 ∣ n) : s1 / d * s2 ∣ n := by
  have d1 := g.pos hs
  obtain ⟨y, hy⟩ := g.z
  obtain ⟨a', ha'⟩ := g.da
  have e1 : s1 / d = a' := by
    exact Int.ediv_eq_of_eq_mul_right (by omega) ha'
  rw [e1]
  obtain ⟨i, hi⟩ := h1
  obtain ⟨j, hj⟩ := h2
  -- n d = n s1 x + n s2 y = s2 j s1 x + s1 i s2 y = s1 s2 (j x + i y) = d a' s2 (..)
  refine ⟨j * x + i * y, ?_⟩
  have f1 : n * d = n * (s1 * x) + n * (s2 * y) := by
    have := congrArg (fun t => n * t) hy
    simp only [Int.mul_add] at this
    exact this
  have f2 : n * (s1 * x) = d * (a' * s2 * (j * x)) := by
    have : n * (s1 * x) = s2 * j * (s1 * x) := congrArg (· * (s1 * x)) hj
    rw [this, ha']; simp only [Int.mul_comm, Int.mul_left_comm]
  have f3 : n * (s2 * y) = d * (a' * s2 * (i * y)) := by
    have : n * (s2 * y) = s1 * i * (s2 * y) := congrArg (· * (s2 * y)) hi
    rw [this, ha']; simp only [Int.mul_comm, Int.mul_left_comm]
  have f4 : d * n = d * (a' * s2 * (j * x + i * y)) := by
    rw [Int.mul_add, Int.mul_add, ← f2, ← f3, Int.mul_comm d n]; exact f1
  exact Int.eq_of_mul_eq_mul_left (by omega) f4
theorem lcm_facts {s1 s2 d x : Int} (g : Gcd s1 s2 d x) (hs : 1 ≤ s1) (hs2 : 1 ≤ s2) : 1 ≤ s1 / d * s2 ∧ s1 ∣ s1 / d * s2 ∧ s2 ∣ s1 / d * s2 ∧ 1 ≤ s1 / d ∧ s1 / d ≤ s1 := by
  have d1 := g.pos hs
  have q := quo_bd s1 d (by omega) d1
  obtain ⟨a', ha'⟩ := g.da
  obtain ⟨b', hb'⟩ := g.db
  have e1 : s1 / d = a' := by
    exact Int.ediv_eq_of_eq_mul_right (by omega) ha'
  have a1 : 1 ≤ a' := by
    by_cases c : 1 ≤ a'
    · exact c
    · have : d * a' ≤ d * 0 := Int.mul_le_mul_of_nonneg_left (by omega) (by omega)
      omega
  rw [e1] at q ⊢
  have p : 1 * 1 ≤ a' * s2 := Int.mul_le_mul a1 hs2 (by omega) (by omega)
  refine ⟨by omega, ⟨b', ?_⟩, Int.dvd_mul_left _ _, a1, q.2⟩
  have f : a' * s2 = a' * (d * b') := congrArg (a' * ·) hb'
  have f2 : s1 * b' = d * a' * b' := congrArg (· * b') ha'
  rw [f, f2]; simp only [Int.mul_comm, Int.mul_left_comm]
/-- the common numbers of two progressions -/
theorem common_mem {l1 h1 s1 l2 h2 s2 d x t L H n : Int} (g : Gcd s1 s2 d x) (hs : 1 ≤ s1) (hs2 : 1 ≤ s2) (hd : d ∣ l2 - l1) (ht : (s2 / d) ∣ (t - (l2 - l1) / d * x))
    (hL : L = max l1 l2 + (l1 + t * s1 - max l1 l2) % (s1 / d * s2)) (hH : H = min h1 h2 - (min h1 h2 - (l1 + t * s1)) % (s1 / d * s2)) :
    Mem L H (s1 / d * s2) n ↔ Mem l1 h1 s1 n ∧ Mem l2 h2 s2 n := by
  obtain ⟨mt1, mt2⟩ := meets g hs hd ht
  obtain ⟨p1, v1, v2, _, _⟩ := lcm_facts g hs hs2
  generalize hS : s1 / d * s2 = S at *
  generalize hM : l1 + t * s1 = M at *
  have hr0 := Int.emod_nonneg (M - max l1 l2) (show S ≠ 0 by omega)
  have hr1 := Int.emod_lt_of_pos (M - max l1 l2) (show 0 < S by omega)
  have hq0 := Int.emod_nonneg (min h1 h2 - M) (show S ≠ 0 by omega)
  have hq1 := Int.emod_lt_of_pos (min h1 h2 - M) (show 0 < S by omega)
  -- both ends differ from the meeting point by multiples
  have eL : S ∣ L - M := by
    have e : L - M = (M - max l1 l2) % S - (M - max l1 l2) := by omega
    rw [e, show (M - max l1 l2) % S - (M - max l1 l2) = -((M - max l1 l2) - (M - max l1 l2) % S) by omega]
    exact Int.dvd_neg.2 ⟨(M - max l1 l2) / S, by have := Int.mul_ediv_add_emod (M - max l1 l2) S; omega⟩
  have eH : S ∣ H - M := by
    have e : H - M = (min h1 h2 - M) - (min h1 h2 - M) % S := by omega
    rw [e]
    exact ⟨(min h1 h2 - M) / S, by have := Int.mul_ediv_add_emod (min h1 h2 - M) S; omega⟩
  constructor
  · rintro ⟨a1, a2, a3⟩
    have am : S ∣ n - M := by
      have := Int.dvd_add a3 eL
      rwa [show n - L + (L - M) = n - M by omega] at this
    refine ⟨⟨by omega, by omega, ?_⟩, ⟨by omega, by omega, ?_⟩⟩
    · have := Int.dvd_add (Int.dvd_trans v1 am) mt1
      rwa [show n - M + (M - l1) = n - l1 by omega] at this
    · have := Int.dvd_add (Int.dvd_trans v2 am) mt2
      rwa [show n - M + (M - l2) = n - l2 by omega] at this
  · rintro ⟨⟨a1, a2, a3⟩, ⟨b1, b2, b3⟩⟩
    have c1 : s1 ∣ n - M := by
      have := Int.dvd_sub a3 mt1
      rwa [show n - l1 - (M - l1) = n - M by omega] at this
    have c2 : s2 ∣ n - M := by
      have := Int.dvd_sub b3 mt2
      rwa [show n - l2 - (M - l2) = n - M by omega] at this
    have c3 : S ∣ n - M := by have := lcm_dvd g hs c1 c2; rwa [hS] at this
    have c4 : S ∣ n - L := by
      have := Int.dvd_sub c3 eL
      rwa [show n - M - (L - M) = n - L by omega] at this
    have c5 : S ∣ H - n := by
      have := Int.dvd_sub eH c3
      rwa [show H - M - (n - M) = H - n by omega] at this
    refine ⟨?_, ?_, c4⟩
    · -- n ≥ max, so n - L > -S
      obtain ⟨k, hk⟩ := c4
      have : -S < S * k := by omega
      by_cases k0 : 0 ≤ k
      · have := Int.mul_nonneg (show 0 ≤ S by omega) k0; omega
      · have : S * k ≤ S * (-1) := Int.mul_le_mul_of_nonneg_left (by omega) (by omega)
        omega
    · obtain ⟨k, hk⟩ := c5
      have : -S < S * k := by omega
      by_cases k0 : 0 ≤ k
      · have := Int.mul_nonneg (show 0 ≤ S by omega) k0; omega
      · have : S * k ≤ S * (-1) := Int.mul_le_mul_of_nonneg_left (by omega) (by omega)
        omega
theorem ends_dvd {A B M S L H : Int} (hL : L = A + (M - A) % S) (hH : H = B - (B - M) % S) : S ∣ H - L := by
  have e1 : S ∣ L - M := ⟨-((M - A) / S), by have := Int.mul_ediv_add_emod (M - A) S; rw [Int.mul_neg]; omega⟩
  have e2 : S ∣ H - M := ⟨(B - M) / S, by have := Int.mul_ediv_add_emod (B - M) S; omega⟩
  have := Int.dvd_sub e2 e1
  rwa [show H - M - (L - M) = H - L by omega] at this
end Go.Proofs.Ytmelknodmbdhpaa
namespace Go.Proofs.Ytmelknodmbdhpaa
open Go.RowKit
theorem mod_spell (a n : Int) (hn : 1 ≤ n) : -n < a.tmod n ∧ a.tmod n < n ∧ (a.tmod n + n) % n = a % n := by
  have h1 := Int.lt_tmod_of_pos a (show 0 < n by omega)
  have h2 := Int.tmod_lt_of_pos a (show 0 < n by omega)
  refine ⟨h1, h2, ?_⟩
  have e := Int.tmod_add_mul_tdiv a n
  have e1 : a % n = (a.tmod n + n * a.tdiv n) % n := congrArg (· % n) e.symm
  rw [e1, Int.add_mul_emod_self_left, Int.add_emod_right]
set_option maxHeartbeats 400000 in
theorem modulo_any (a n : Int) (w : World) (hn : 1 ≤ n) (h2 : n ≤ 4000000000000) :
    Calls Try.prog 160 #[.int .i64 a, .int .i64 n] w fun e w' => e = .returned (.int .i64 (a % n)) ∧ w = w' := by
  obtain ⟨m1, m2, m3⟩ := mod_spell a n hn
  have E := Lib.hid m3
  have hz : ¬ n = 0 := by omega
  clear m3
  go_enter Try.func160, Try.ntmps160
  go_wp2
  go_ret
  exact ⟨by rw [← E.out]; rfl, rfl⟩
/-- what euclid returns -/
def GcdRet (a b : Int) (w : World) : Ending → World → Prop := fun e w' => ∃ d x : Int, Gcd a b d x ∧ e = .returned (.tuple #[.int .i64 d, .int .i64 x]) ∧ Below w.heap.size w w'
theorem arrayAt_two (b o n c : Nat) (hn : 2 ≤ n) : ∀ w : World, (Instr.arrayAt 87 (.slice (some ⟨b, o, none⟩) n c)).run Try.prog w = .ok (.pointer (some ⟨b, o, none⟩)) w := by
  intro w
  have h2 : ¬ n < 2 := by omega
  simp [Instr.arrayAt, go_sem, h2]
/-- the two pairs of euclid's loop, in blocks of the call's own -/
def EuWorld (a b : Int) (w : World) (g k : Nat) (m : Nat) (wx : World) : Prop := ∃ r0 x0 r1 x1 : Int, EInv a b r0 x0 r1 x1 ∧ r1.toNat < m ∧ Below w.heap.size w wx ∧ g < wx.heap.size ∧ k < wx.heap.size ∧
  wx.cell? ⟨g, 0, none⟩ = some (.int .i64 r0) ∧ wx.cell? ⟨g, 1, none⟩ = some (.int .i64 x0) ∧ wx.cell? ⟨k, 0, none⟩ = some (.int .i64 r1) ∧ wx.cell? ⟨k, 1, none⟩ = some (.int .i64 x1) ∧
  wx.frozen? ⟨g, 0, none⟩ = false ∧ wx.frozen? ⟨g, 1, none⟩ = false ∧ wx.frozen? ⟨k, 0, none⟩ = false ∧ wx.frozen? ⟨k, 1, none⟩ = false
set_option maxHeartbeats 1600000 in
theorem euclid_any (a b : Int) (w : World) (ha : 0 ≤ a) (hb : 0 ≤ b) (ha2 : a ≤ 4000000) (hb2 : b ≤ 4000000) : Calls Try.prog 132 #[.int .i64 a, .int .i64 b] w (GcdRet a b w) := by
  have hA1 := arrayAt_two w.heap.size 0 2 4 (by omega)
  have hA2 := arrayAt_two w.heap.size 2 2 2 (by omega)
  go_enter Try.func132, Try.ntmps132
  go_upto_region 2 with fail
  go_cut [7, 8] (fun s7 s8 wx => ∃ g k : Nat, g ≠ k ∧ w.heap.size ≤ g ∧ w.heap.size ≤ k ∧ s7 = .pointer (some ⟨g, 0, none⟩) ∧ s8 = .pointer (some ⟨k, 0, none⟩) ∧ EuWorld a b w g k (a.toNat + b.toNat + 1) wx)
  case first =>
    go_region
    · go_wp2_with fail
      go_meet
      exact ⟨w.heap.size + 1, w.heap.size + 1 + 1, by omega, by omega, by omega, rfl, rfl, a, 1, b, 0, EInv.start a b ha hb ha2 hb2, by omega, by repeat (first | exact Below.refl _ _ | refine Below.alloc ?_ (by simp; try omega) _ | refine Below.drew ?_), by simp <;> omega, by simp <;> omega, by simp [go_sem], by simp [go_sem], by simp [go_sem], by simp [go_sem], by simp [go_sem], by simp [go_sem], by simp [go_sem], by simp [go_sem]⟩
    · go_wp2_with fail
      go_meet
      exact ⟨w.heap.size + 1 + 1, w.heap.size + 1, by omega, by omega, by omega, rfl, rfl, a, 1, b, 0, EInv.start a b ha hb ha2 hb2, by omega, by repeat (first | exact Below.refl _ _ | refine Below.alloc ?_ (by simp; try omega) _ | refine Below.drew ?_), by simp <;> omega, by simp <;> omega, by simp [go_sem], by simp [go_sem], by simp [go_sem], by simp [go_sem], by simp [go_sem], by simp [go_sem], by simp [go_sem], by simp [go_sem]⟩
  case rest =>
    obtain ⟨g, k, hgk, hg, hk, rfl, rfl, hE⟩ := hcut
    have HE := Lib.hid hE
    clear hE hA1 hA2
    go_wp2_with fail
    go_loopg [9] (a.toNat + b.toNat + 1) (fun m _ wr => EuWorld a b w g k m wr)
    case atStart => exact HE.out
    case round =>
      obtain ⟨r0, x0, r1, x1, hI, hm, hB, hgs, hks, c0, c1, d0, d1, f0, f1, f2, f3⟩ := hrel
      have HI := Lib.hid hI
      have HM := Lib.hid hm
      have HB := Lib.hid hB
      have n0 := hI.n0
      have n1 := hI.n1
      have m0 := hI.m0
      have m1 := hI.m1
      have xb := hI.x_bd
      clear hI hm hB HE
      by_cases hz : r1 = 0
      · subst hz
        have hz' : ((0 : Int) != 0) = false := by decide
        go_wp2_with fail
        go_quiet (fail)
        go_wp2
        exact bodyPost_ret (v := .tuple #[.int .i64 r0, .int .i64 x0]) (by simp [results, Try.results132, go_sem, *]) rfl ⟨r0, x0, HI.out.done, rfl, below_drewN HB.out _⟩
      · have hz' : (r1 != 0) = true := by simp [hz]
        obtain ⟨q1, q2, q3, q4, q5, q6⟩ := HI.out.q_bd hb2 hz
        have hr1 : 1 ≤ r1 := by omega
        have k1 : IntKind.i64.wrap (r0 / r1 * r1) = r0 / r1 * r1 := IntWalk.i64_in _ (by omega)
        have k2 : IntKind.i64.wrap (r0 - r0 / r1 * r1) = r0 - r0 / r1 * r1 := IntWalk.i64_in _ (by omega)
        have k3 : IntKind.i64.wrap (r0 / r1 * x1) = r0 / r1 * x1 := IntWalk.i64_in _ (by omega)
        have k4 : IntKind.i64.wrap (x0 - r0 / r1 * x1) = x0 - r0 / r1 * x1 := IntWalk.i64_in _ (by omega)
        go_wp2_with fail
        go_region
        clear k1 k2 k3 k4
        go_wp2_with fail
        obtain ⟨S1, S2⟩ := HI.out.step hb2 hz
        go_roundg r1.toNat
        case measure => exact HM.out
        case rel =>
          refine ⟨r1, x1, r0 - r0 / r1 * r1, x0 - r0 / r1 * x1, S1, by have := S1.n1; omega, ?_, by simp [World.setCell]; exact hgs, by simp [World.setCell]; exact hks, ?_, ?_, ?_, ?_, ?_, ?_, ?_, ?_⟩
          · exact (((((HB.out.drew).setCell (by simpa using hg) _).setCell (by simpa using hg) _).setCell (by simpa using hk) _).setCell (by simpa using hk) _)
          all_goals simp [go_sem, *]
end Go.Proofs.Ytmelknodmbdhpaa
