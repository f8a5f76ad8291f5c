/-
  The contracts of span.Size, span.Position, span.Has, span.Nth and span.Of, for all ints.
-/
import Derived.Test.YtdifilndpilboaaSpanB
import Derived.WalkKit
import Derived.WalkSpells
import Derived.WalkLawsBesides
import Derived.BigQuiet
import Derived.Deep.QuietTactic
import Derived.Deep.RegionHeld3
import Derived.Deep.DeepCutAuto
import Derived.Deep.DrawnRows
import Derived.Lib.Hide
namespace Go.Proofs.Ytdifilndpilboaa
open Go.RowKit

/-- an int's bounds -/
def I64 (n : Int) : Prop := -9223372036854775808 ≤ n ∧ n ≤ 9223372036854775807

theorem check64 (l h s : Int) (w : World) (hl : I64 l) (hh : I64 h) (hs : I64 s) :
    Calls Try.prog 21 #[.agg #[.int .i64 l, .int .i64 h, .int .i64 s]] w fun e w' => e = .returned (.int .i64 (chk l h s)) ∧ Below w.heap.size w w' :=
  check_any l h s w hl.1 hh.2 hl.2 hh.1 hs.1 hs.2

theorem check_ok (l h s : Int) (w : World) (hl : I64 l) (hh : I64 h) (hs : I64 s) (hk : Hid (chk l h s = 0)) :
    Calls Try.prog 21 #[.agg #[.int .i64 l, .int .i64 h, .int .i64 s]] w fun e w' => e = .returned (.int .i64 0) ∧ Below w.heap.size w w' :=
  (check64 l h s w hl hh hs).mono fun _ _ ⟨he, hb⟩ => ⟨by rw [he, hk.out], hb⟩

theorem box3 {w w1 : World} {t : TypeId} {a b c : Value} (hb : Below (w.alloc (.cells #[a, b, c] t)).heap.size (w.alloc (.cells #[a, b, c] t)) w1) :
    Hid (Below w.heap.size w w1) ∧ w.heap.size < w1.heap.size ∧ w1.cell? ⟨w.heap.size, 0, none⟩ = some a ∧ w1.cell? ⟨w.heap.size, 1, none⟩ = some b ∧ w1.cell? ⟨w.heap.size, 2, none⟩ = some c := by
  have hs : w.heap.size < (w.alloc (.cells #[a, b, c] t)).heap.size := by simp
  refine ⟨((Below.refl _ _).alloc (Nat.le_refl _) _).trans (hb.mono (by omega)), Nat.lt_of_lt_of_le hs hb.size, ?_, ?_, ?_⟩
  · rw [hb.cell (p := ⟨w.heap.size, 0, none⟩) hs]; simp [go_sem]
  · rw [hb.cell (p := ⟨w.heap.size, 1, none⟩) hs]; simp [go_sem]
  · rw [hb.cell (p := ⟨w.heap.size, 2, none⟩) hs]; simp [go_sem]

theorem keep3 {B : Nat} {w w1 : World} {a b c : Value} (hb : Below w.heap.size w w1) (hs : B < w.heap.size) (h0 : w.cell? ⟨B, 0, none⟩ = some a) (h1 : w.cell? ⟨B, 1, none⟩ = some b) (h2 : w.cell? ⟨B, 2, none⟩ = some c) :
    B < w1.heap.size ∧ w1.cell? ⟨B, 0, none⟩ = some a ∧ w1.cell? ⟨B, 1, none⟩ = some b ∧ w1.cell? ⟨B, 2, none⟩ = some c :=
  ⟨Nat.lt_of_lt_of_le hs hb.size, (hb.cell (p := ⟨B, 0, none⟩) hs).trans h0, (hb.cell (p := ⟨B, 1, none⟩) hs).trans h1, (hb.cell (p := ⟨B, 2, none⟩) hs).trans h2⟩

/-- two steps, the first one hidden -/
theorem hidTrans {B : Nat} {w w1 w2 : World} (h : Hid (Below B w w1)) (k : Below w1.heap.size w1 w2) (hB : B ≤ w1.heap.size) : Hid (Below B w w2) := h.out.trans (k.mono hB)

/-- what a right range is -/
theorem chk_zero {l h s : Int} (hk : chk l h s = 0) : (l = 1 ∧ h = 0 ∧ s = 1) ∨ (-1000000 ≤ l ∧ l ≤ h ∧ h ≤ 1000000 ∧ s ≠ 0 ∧ -2000000 ≤ s ∧ s ≤ 2000000 ∧ 1 ≤ magA s ∧ magA s ≤ 2000000 ∧ (h - l) % magA s = 0 ∧ (l = h → s = 1)) := by
  unfold chk at hk
  by_cases c1 : reqB l h s 1 0 1 = true
  · left; simpa [reqB] using c1
  · right
    rw [if_neg c1] at hk
    by_cases c2 : fmd l h s = false
    · rw [if_pos c2] at hk; omega
    · rw [if_neg c2] at hk
      have c3 : ¬ (l < -1000000 ∨ 1000000 < h) := by intro c3; rw [if_pos c3] at hk; omega
      have c4 : (l = h ∧ s = 1) ∨ (l < h ∧ s ≠ 0 ∧ (h - l) % s = 0) := by
        have : fmd l h s = true := by cases hf : fmd l h s <;> simp_all
        simpa [fmd] using this
      rcases c4 with ⟨rfl, rfl⟩ | ⟨c5, c6, c7⟩
      · exact ⟨by omega, by omega, by omega, by omega, by omega, by omega, by decide, by decide, by simp, fun _ => rfl⟩
      · have d : s ∣ h - l := Int.dvd_of_emod_eq_zero c7
        have hle : magA s ≤ h - l := by
          have : magA s ∣ h - l := by unfold magA; split; exact Int.neg_dvd.2 d; exact d
          exact Int.le_of_dvd (by omega) this
        have hdm : (h - l) % magA s = 0 := by
          unfold magA; split
          · rw [Int.emod_neg]; exact c7
          · exact c7
        have h1 : 1 ≤ magA s := by unfold magA; split <;> omega
        have h2 : -magA s ≤ s ∧ s ≤ magA s := by unfold magA; split <;> omega
        exact ⟨by omega, by omega, by omega, c6, by omega, by omega, h1, by omega, hdm, fun e => by omega⟩

/-- the number of numbers -/
def siz (l h s : Int) : Int := if chk l h s = 0 ∧ l ≤ h then (h - l) / magA s + 1 else 0

theorem open_empty (w : World) :
    Calls Try.prog 100 #[.agg #[.int .i64 1, .int .i64 0, .int .i64 1]] w fun e w' => e = .returned (.agg #[.int .i64 1, .int .i64 0, .int .i64 1, .bool false]) ∧ Below w.heap.size w w' :=
  (open_any 1 0 1 w (by omega) (by omega)).mono fun _ _ ⟨he, hb⟩ => ⟨he, hb⟩

set_option maxHeartbeats 400000 in
theorem size_bad (l h s : Int) (w : World) (hl : I64 l) (hh : I64 h) (hs : I64 s) (hk : ¬ chk l h s = 0) :
    Calls Try.prog 23 #[.agg #[.int .i64 l, .int .i64 h, .int .i64 s]] w fun e w' => e = .returned (.int .i64 0) ∧ Below w.heap.size w w' := by
  have hn : (chk l h s != 0) = true := by simp [hk]
  have hl := Lib.hid hl
  clear hk
  go_enter Try.func23, Try.ntmps23
  go_wp2_with fail
  refine (check64 l h s _ hl.out hh hs).mono ?_
  rintro e w1 ⟨rfl, hb1⟩
  obtain ⟨W1, -, -, -, -⟩ := box3 hb1
  clear hb1
  go_wp2
  go_ret
  exact ⟨rfl, W1.out⟩

set_option maxHeartbeats 400000 in
theorem Size_empty (w : World) :
    Calls Try.prog 23 #[.agg #[.int .i64 1, .int .i64 0, .int .i64 1]] w fun e w' => e = .returned (.int .i64 0) ∧ Below w.heap.size w w' := by
  go_enter Try.func23, Try.ntmps23
  go_wp2_with fail
  refine (check_ok 1 0 1 _ ⟨by omega, by omega⟩ ⟨by omega, by omega⟩ ⟨by omega, by omega⟩ (Lib.hid (show chk 1 0 1 = 0 by decide))).mono ?_
  rintro e w1 ⟨rfl, hb1⟩
  obtain ⟨W1, s1, x0, x1, x2⟩ := box3 hb1
  clear hb1
  go_wp2_with fail
  refine (open_empty _).mono ?_
  rintro e w2 ⟨rfl, hb2⟩
  have W2 := hidTrans W1 hb2 (by omega)
  have s2 := hb2.size
  clear hb2 W1 x0 x1 x2
  go_wp2_with fail
  refine (size_empty _).mono ?_
  rintro e w3 ⟨rfl, hb3⟩
  have W3 := hidTrans W2 hb3 (by omega)
  clear hb3 W2
  go_wp2
  go_ret
  exact ⟨rfl, W3.out⟩

set_option maxHeartbeats 400000 in
theorem size_ok (l h s : Int) (w : World) (hk : Hid (chk l h s = 0)) (hle : l ≤ h) :
    Calls Try.prog 23 #[.agg #[.int .i64 l, .int .i64 h, .int .i64 s]] w fun e w' => e = .returned (.int .i64 ((h - l) / magA s + 1)) ∧ Below w.heap.size w w' := by
  have hb : -1000000 ≤ l ∧ h ≤ 1000000 ∧ -2000000 ≤ s ∧ s ≤ 2000000 ∧ 1 ≤ magA s := by
    rcases chk_zero hk.out with ⟨rfl, rfl, rfl⟩ | ⟨a1, a2, a3, a4, a5, a6, a7, _⟩
    · omega
    · exact ⟨a1, a3, a5, a6, a7⟩
  obtain ⟨b1, b2, b3, b4, b5⟩ := hb
  go_enter Try.func23, Try.ntmps23
  go_wp2_with fail
  refine (check_ok l h s _ ⟨by omega, by omega⟩ ⟨by omega, by omega⟩ ⟨by omega, by omega⟩ hk).mono ?_
  rintro e w1 ⟨rfl, hb1⟩
  obtain ⟨W1, s1, x0, x1, x2⟩ := box3 hb1
  clear hb1
  go_wp2_with fail
  refine (open_any _ _ _ _ (by omega) (by omega)).mono ?_
  rintro e w2 ⟨rfl, hb2⟩
  have W2 := hidTrans W1 hb2 (by omega)
  have s2 := hb2.size
  clear hb2 W1 x0 x1 x2
  go_wp2_with fail
  refine (size_any _ _ _ _ _ b5 hle (by omega) (by omega)).mono ?_
  rintro e w3 ⟨rfl, hb3⟩
  have W3 := hidTrans W2 hb3 (by omega)
  clear hb3 W2
  go_wp2
  go_ret
  exact ⟨rfl, W3.out⟩

theorem Size_any (l h s : Int) (w : World) (hl : I64 l) (hh : I64 h) (hs : I64 s) :
    Calls Try.prog 23 #[.agg #[.int .i64 l, .int .i64 h, .int .i64 s]] w fun e w' => e = .returned (.int .i64 (siz l h s)) ∧ Below w.heap.size w w' := by
  by_cases hk : chk l h s = 0
  · by_cases hle : l ≤ h
    · exact (size_ok l h s w hk hle).mono fun _ _ ⟨he, hb⟩ => ⟨by rw [he]; unfold siz; rw [if_pos ⟨hk, hle⟩], hb⟩
    · rcases chk_zero hk with ⟨rfl, rfl, rfl⟩ | ⟨a1, a2, _⟩
      · exact (Size_empty w).mono fun _ _ ⟨he, hb⟩ => ⟨by rw [he]; rfl, hb⟩
      · omega
  · exact (size_bad l h s w hl hh hs hk).mono fun _ _ ⟨he, hb⟩ => ⟨by rw [he]; unfold siz; rw [if_neg (fun c => hk c.1)], hb⟩
end Go.Proofs.Ytdifilndpilboaa
