/-
  The contract of span.moved, for a closure that captured one variable.
-/
import Derived.Test.YtdifilndpilboaaSpanF
import Derived.WalkKit
import Derived.WalkSpells
import Derived.WalkLawsBesides
import Derived.Lib.Hide
namespace Go.Proofs.Ytdifilndpilboaa
open Go.RowKit

theorem nL_64 (l h : Int) (hl : I64 l) : I64 (nL l h) := by unfold nL; split; exact ⟨by omega, by omega⟩; exact hl
theorem nH_64 (l h : Int) (hh : I64 h) : I64 (nH l h) := by unfold nH; split; exact ⟨by omega, by omega⟩; exact hh
theorem nS_64 (l h st : Int) (dn : Bool) (h1 : -4000000000000 ≤ st) (h2 : st ≤ 4000000000000) : I64 (nS l h st dn) := by
  unfold nS I64; split
  · omega
  · split
    · omega
    · split <;> omega

/-- the two blocks that a function lays first, behind a call: the box of its range and its result -/
theorem res2 {w w1 : World} {t t' : TypeId} {a b c a' b' c' : Value} (hb : Below ((w.alloc (.cells #[a, b, c] t)).alloc (.cells #[a', b', c'] t')).heap.size ((w.alloc (.cells #[a, b, c] t)).alloc (.cells #[a', b', c'] t')) w1) :
    Hid (Below w.heap.size w w1) ∧ w.heap.size + 1 < w1.heap.size ∧ (w1.cell? ⟨w.heap.size, 0, none⟩ = some a ∧ w1.cell? ⟨w.heap.size, 1, none⟩ = some b ∧ w1.cell? ⟨w.heap.size, 2, none⟩ = some c) ∧
      (w1.cell? ⟨w.heap.size + 1, 0, none⟩ = some a' ∧ w1.cell? ⟨w.heap.size + 1, 1, none⟩ = some b' ∧ w1.cell? ⟨w.heap.size + 1, 2, none⟩ = some c') ∧
      (w1.frozen? ⟨w.heap.size + 1, 0, none⟩ = false ∧ w1.frozen? ⟨w.heap.size + 1, 1, none⟩ = false ∧ w1.frozen? ⟨w.heap.size + 1, 2, none⟩ = false) := by
  have hs : w.heap.size + 1 < ((w.alloc (.cells #[a, b, c] t)).alloc (.cells #[a', b', c'] t')).heap.size := by simp
  have hs0 : w.heap.size < ((w.alloc (.cells #[a, b, c] t)).alloc (.cells #[a', b', c'] t')).heap.size := by simp; omega
  refine ⟨(((Below.refl _ _).alloc (Nat.le_refl _) _).alloc (by simp) _).trans (hb.mono (by omega)), Nat.lt_of_lt_of_le hs hb.size, ⟨?_, ?_, ?_⟩, ⟨?_, ?_, ?_⟩, ?_, ?_, ?_⟩
  · rw [hb.cell (p := ⟨w.heap.size, 0, none⟩) hs0]; simp [go_sem]
  · rw [hb.cell (p := ⟨w.heap.size, 1, none⟩) hs0]; simp [go_sem]
  · rw [hb.cell (p := ⟨w.heap.size, 2, none⟩) hs0]; simp [go_sem]
  · rw [hb.cell (p := ⟨w.heap.size + 1, 0, none⟩) hs]; simp [go_sem]
  · rw [hb.cell (p := ⟨w.heap.size + 1, 1, none⟩) hs]; simp [go_sem]
  · rw [hb.cell (p := ⟨w.heap.size + 1, 2, none⟩) hs]; simp [go_sem]
  · rw [hb.frozen (p := ⟨w.heap.size + 1, 0, none⟩) hs]; simp [go_sem]
  · rw [hb.frozen (p := ⟨w.heap.size + 1, 1, none⟩) hs]; simp [go_sem]
  · rw [hb.frozen (p := ⟨w.heap.size + 1, 2, none⟩) hs]; simp [go_sem]

/-- a block's three cells, and that they may be written, behind a further call -/
theorem keepF {B : Nat} {w w1 : World} {a b c : Value} (hb : Below w.heap.size w w1) (hs : B < w.heap.size) (x : w.cell? ⟨B, 0, none⟩ = some a ∧ w.cell? ⟨B, 1, none⟩ = some b ∧ w.cell? ⟨B, 2, none⟩ = some c)
    (z : w.frozen? ⟨B, 0, none⟩ = false ∧ w.frozen? ⟨B, 1, none⟩ = false ∧ w.frozen? ⟨B, 2, none⟩ = false) :
    (w1.cell? ⟨B, 0, none⟩ = some a ∧ w1.cell? ⟨B, 1, none⟩ = some b ∧ w1.cell? ⟨B, 2, none⟩ = some c) ∧ (w1.frozen? ⟨B, 0, none⟩ = false ∧ w1.frozen? ⟨B, 1, none⟩ = false ∧ w1.frozen? ⟨B, 2, none⟩ = false) :=
  ⟨⟨(hb.cell (p := ⟨B, 0, none⟩) hs).trans x.1, (hb.cell (p := ⟨B, 1, none⟩) hs).trans x.2.1, (hb.cell (p := ⟨B, 2, none⟩) hs).trans x.2.2⟩,
   (hb.frozen (p := ⟨B, 0, none⟩) hs).trans z.1, (hb.frozen (p := ⟨B, 1, none⟩) hs).trans z.2.1, (hb.frozen (p := ⟨B, 2, none⟩) hs).trans z.2.2⟩

/-- what a closure that captured one variable does with a progression -/
def Moves (fv : FuncId) (a : Addr) (vn : Value) (l h m : Int) (dn : Bool) (l' h' st' : Int) (dn' : Bool) : Prop :=
  ∀ w : World, w.cell? a = some vn → Calls Try.prog fv #[.agg #[.int .i64 l, .int .i64 h, .int .i64 m, .bool dn], .pointer (some a)] w fun e w' => e = .returned (.agg #[.int .i64 l', .int .i64 h', .int .i64 st', .bool dn']) ∧ Below w.heap.size w w'

set_option maxHeartbeats 800000 in
theorem moved_By (b o : Nat) (vn : Value) (l h s l' h' st' : Int) (dn' : Bool) (w : World) (hk : Hid (chk l h s = 0)) (hle : l ≤ h) (hc : w.cell? ⟨b, o, none⟩ = some vn)
    (hm : Moves 109 ⟨b, o, none⟩ vn l h (magA s) (decide (s < 0)) l' h' st' dn') (hl' : I64 l') (hh' : I64 h') (s1 : -4000000000000 ≤ st') (s2 : st' ≤ 4000000000000) (hr : Hid (chk (nL l' h') (nH l' h') (nS l' h' st' dn') = 0)) :
    Calls Try.prog 108 #[.agg #[.int .i64 l, .int .i64 h, .int .i64 s], .func (.func 109) #[] #[.pointer (some ⟨b, o, none⟩)]] w fun e w' => e = .returned (.tuple #[.agg #[.int .i64 (nL l' h'), .int .i64 (nH l' h'), .int .i64 (nS l' h' st' dn')], .int .i64 0]) ∧ Below w.heap.size w w' := by
  obtain ⟨b1, b2, b3, b4, b5, b6, b7, b8⟩ := chk_bounds hk.out
  have q := quo_bd (h - l) (magA s) (by omega) b7
  have hz : ((h - l) / magA s + 1 == 0) = false := by simp; omega
  have hlt : b < w.heap.size := World.block_lt_of_cell? w _ hc
  have HC := Lib.hid hc
  clear hc q
  go_enter Try.func108, Try.ntmps108
  go_wp2_with fail
  refine (check_ok l h s _ ⟨by omega, by omega⟩ ⟨by omega, by omega⟩ ⟨by omega, by omega⟩ hk).mono ?_
  rintro e w1 ⟨rfl, hb1⟩
  obtain ⟨W1, z1, ⟨x0, x1, x2⟩, Y, F⟩ := res2 hb1
  have Y1 := Lib.hid Y
  have F1 := Lib.hid F
  clear hb1 Y F
  go_wp2_with fail
  refine (size_ok l h s _ hk hle).mono ?_
  rintro e w2 ⟨rfl, hb2⟩
  have W2 := hidTrans W1 hb2 (by omega)
  obtain ⟨z2, y0, y1, y2⟩ := keep3 hb2 (show w.heap.size < w1.heap.size by omega) x0 x1 x2
  have G2 := Lib.hid (keepF hb2 z1 Y1.out F1.out)
  have z2' := hb2.size
  clear hb2 W1 x0 x1 x2
  go_wp2_with fail
  refine (open_any _ _ _ _ (by omega) (by omega)).mono ?_
  rintro e w3 ⟨rfl, hb3⟩
  have W3 := hidTrans W2 hb3 (by omega)
  have G3 := Lib.hid (keepF hb3 (by omega) G2.out.1 G2.out.2)
  have z3 := hb3.size
  clear hb3 W2 y0 y1 y2
  go_wp2_with fail
  refine (hm _ ((W3.out.cell (p := ⟨b, o, none⟩) hlt).trans HC.out)).mono ?_
  rintro e w4 ⟨rfl, hb4⟩
  have W4 := hidTrans W3 hb4 (by omega)
  have G4 := Lib.hid (keepF hb4 (by omega) G3.out.1 G3.out.2)
  have z4 := hb4.size
  clear hb4 W3
  go_wp2_with fail
  refine (normal_any _ _ _ _ _ s1 s2).mono ?_
  rintro e w5 ⟨rfl, hb5⟩
  have W5 := hidTrans W4 hb5 (by omega)
  have G5 := Lib.hid (keepF hb5 (by omega) G4.out.1 G4.out.2)
  have z5 := hb5.size
  clear hb5 W4
  go_wp2_with fail
  refine (check_ok _ _ _ _ (nL_64 l' h' hl') (nH_64 l' h' hh') (nS_64 l' h' st' dn' s1 s2) hr).mono ?_
  rintro e w6 ⟨rfl, hb6⟩
  obtain ⟨V6, z6, y0, y1, y2⟩ := box3 hb6
  have W6 := hidTrans W5 V6.out (by omega)
  have G6 := keepF V6.out (by omega) G5.out.1 G5.out.2
  obtain ⟨⟨g0, g1, g2⟩, f0, f1, f2⟩ := G6
  clear hb6 W5 V6
  go_wp2
  refine bodyPost_ret (v := .tuple #[.agg #[.int .i64 (nL l' h'), .int .i64 (nH l' h'), .int .i64 (nS l' h' st' dn')], .int .i64 0]) (by simp [results, Try.results108, go_sem, *]) rfl ⟨rfl, ?_⟩
  repeat (first | exact W6.out | refine Below.setCell ?_ (by simp; try omega) _)
end Go.Proofs.Ytdifilndpilboaa
