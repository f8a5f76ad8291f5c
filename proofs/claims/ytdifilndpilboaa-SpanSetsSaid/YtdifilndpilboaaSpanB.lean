/-
  The contracts of span.formed and span.Check: the error of a range, for all ints.
-/
import Derived.Test.YtdifilndpilboaaSpanA
import Derived.WalkKit
import Derived.WalkSpells
import Derived.WalkLawsBesides
import Derived.BigQuiet
import Derived.Deep.QuietTactic
import Derived.Deep.RegionHeld3
import Derived.Deep.DeepCutAuto
import Derived.Deep.DrawnRows
import Derived.Lib.Hide
namespace Go.Proofs.Ytdifilndpilboaa
open Go.RowKit Go.Op

theorem formed_div (l h s : Int) (h1 : l < h) (hl : -9223372036854775808 ≤ l) (hh : h ≤ 9223372036854775807) (_hs : s ≠ 0) :
    (IntKind.u64.wrap (IntKind.u64.wrap h - IntKind.u64.wrap l)).tmod (magA s) = (h - l) % s := by
  have e : IntKind.u64.wrap (IntKind.u64.wrap h - IntKind.u64.wrap l) = h - l := by
    rw [IntKind.wrap_u64, IntKind.wrap_u64, IntKind.wrap_u64]; omega
  rw [e, Int.tmod_eq_emod_of_nonneg (by omega)]
  unfold magA
  split
  · rw [Int.emod_neg]
  · rfl

/-- whether a range has the form of a single number, or of two or more -/
def fmd (l h s : Int) : Bool := decide ((l = h ∧ s = 1) ∨ (l < h ∧ s ≠ 0 ∧ (h - l) % s = 0))

set_option maxHeartbeats 400000 in
theorem formed_any (l h s : Int) (w : World) (hl : -9223372036854775808 ≤ l) (hh : h ≤ 9223372036854775807) (_hl2 : l ≤ 9223372036854775807) (hh2 : -9223372036854775808 ≤ h) (hs : -9223372036854775808 ≤ s) (hs2 : s ≤ 9223372036854775807) :
    Calls Try.prog 105 #[.agg #[.int .i64 l, .int .i64 h, .int .i64 s]] w fun e w' => e = .returned (.bool (fmd l h s)) ∧ Below w.heap.size w w' := by
  by_cases c1 : l = h
  · subst c1
    have E := Lib.hid (show fmd l l s = (s == 1) by unfold fmd; by_cases c : s = 1 <;> simp [c])
    go_enter Try.func105, Try.ntmps105
    go_wp2
    go_ret
    refine ⟨by rw [E.out]; rfl, ?_⟩
    repeat (first | exact Below.refl _ _ | refine Below.alloc ?_ (by simp; try omega) _ | refine Below.setCell ?_ (by simp; try omega) _ | refine Below.drew ?_)
  · have c0 : (l == h) = false := by simp [c1]
    by_cases c2 : l < h
    · by_cases c3 : s = 0
      · subst c3
        have E := Lib.hid (show fmd l h 0 = false by unfold fmd; simp [c1])
        have c4 : ((0 : Int) != 0) = false := by simp
        have c5 : decide (l < h) = true := by simp [c2]
        go_enter Try.func105, Try.ntmps105
        go_wp2_with fail
        go_quiet (fail)
        go_wp2
        go_ret
        refine ⟨by rw [E.out]; rfl, ?_⟩
        repeat (first | exact Below.refl _ _ | refine Below.alloc ?_ (by simp; try omega) _ | refine Below.setCell ?_ (by simp; try omega) _ | refine Below.drew ?_ | refine below_drewN ?_ _)
      · have E := Lib.hid (show fmd l h s = ((IntKind.u64.wrap (IntKind.u64.wrap h - IntKind.u64.wrap l)).tmod (magA s) == 0) by
          rw [formed_div l h s c2 hl hh c3]; unfold fmd; by_cases c : (h - l) % s = 0 <;> simp [c, c1, c2, c3])
        have c4 : (s != 0) = true := by simp [c3]
        have c5 : decide (l < h) = true := by simp [c2]
        have hm : ¬ magA s = 0 := by unfold magA; split <;> omega
        have hm' : (magA s == 0) = false := by simp [hm]
        go_enter Try.func105, Try.ntmps105
        go_wp2_with fail
        go_region_held3 (fun w' => w'.cell? ⟨w.heap.size, 0, none⟩ = some (.int .i64 l) ∧ w'.cell? ⟨w.heap.size, 1, none⟩ = some (.int .i64 h) ∧ w'.cell? ⟨w.heap.size, 2, none⟩ = some (.int .i64 s)) (go_keep) (first | (go_at_call 95; refine (magnitude_any _ _ (by omega) (by omega)).mono ?_; rintro e w' ⟨rfl, rfl⟩))
        go_wp2
        go_ret
        refine ⟨by rw [E.out]; rfl, ?_⟩
        repeat (first | exact Below.refl _ _ | refine Below.alloc ?_ (by simp; try omega) _ | refine Below.setCell ?_ (by simp; try omega) _ | refine Below.drew ?_)
    · have c5 : decide (l < h) = false := by simp; omega
      have E := Lib.hid (show fmd l h s = false by unfold fmd; simp [c1, c2])
      go_enter Try.func105, Try.ntmps105
      go_wp2_with fail
      go_quiet (fail)
      go_wp2
      go_ret
      refine ⟨by rw [E.out]; rfl, ?_⟩
      repeat (first | exact Below.refl _ _ | refine Below.alloc ?_ (by simp; try omega) _ | refine Below.setCell ?_ (by simp; try omega) _ | refine Below.drew ?_ | refine below_drewN ?_ _)

theorem bcell {W w1 : World} (hb : Below W.heap.size W w1) : (∀ b o, b < W.heap.size → w1.cell? ⟨b, o, none⟩ = W.cell? ⟨b, o, none⟩) ∧ (∀ b o, b < W.heap.size → w1.frozen? ⟨b, o, none⟩ = W.frozen? ⟨b, o, none⟩) :=
  ⟨fun b o h => hb.cell (p := ⟨b, o, none⟩) h, fun b o h => hb.frozen (p := ⟨b, o, none⟩) h⟩

/-- whether two ranges are equal -/
def reqB (a b c a' b' c' : Int) : Bool := decide (a = a' ∧ b = b' ∧ c = c')
theorem eq_range (a b c a' b' c' : Int) (w : World) : (binOp .eql 23 (.agg #[.int .i64 a, .int .i64 b, .int .i64 c]) (.agg #[.int .i64 a', .int .i64 b', .int .i64 c'])).run Try.prog w = .ok (.bool (reqB a b c a' b' c')) w := by
  unfold reqB
  by_cases h1 : a = a'
  · by_cases h2 : b = b'
    · by_cases h3 : c = c'
      · simp [go_sem, h1, h2, h3]
      · simp [go_sem, h1, h2, h3]
    · simp [go_sem, h1, h2]
  · simp [go_sem, h1]

theorem normal_nothing (w : World) :
    Calls Try.prog 96 #[.agg #[.int .i64 1, .int .i64 0, .int .i64 1, .bool false]] w fun e w' => e = .returned (.agg #[.int .i64 1, .int .i64 0, .int .i64 1]) ∧ Below w.heap.size w w' :=
  normal_any 1 0 1 false w (by omega) (by omega)

/-- the error of a range -/
def chk (l h s : Int) : Int := if reqB l h s 1 0 1 = true then 0 else if fmd l h s = false then 2 else if l < -1000000 ∨ 1000000 < h then 4 else 0

set_option maxHeartbeats 400000 in
theorem check_any (l h s : Int) (w : World) (hl : -9223372036854775808 ≤ l) (hh : h ≤ 9223372036854775807) (hl2 : l ≤ 9223372036854775807) (hh2 : -9223372036854775808 ≤ h) (hs : -9223372036854775808 ≤ s) (hs2 : s ≤ 9223372036854775807) :
    Calls Try.prog 21 #[.agg #[.int .i64 l, .int .i64 h, .int .i64 s]] w fun e w' => e = .returned (.int .i64 (chk l h s)) ∧ Below w.heap.size w w' := by
  have hq := eq_range l h s 1 0 1
  rcases hc : reqB l h s 1 0 1 with _ | _
  · rw [hc] at hq
    have HC := Lib.hid hc
    clear hc
    go_enter Try.func21, Try.ntmps21
    go_wp2_with fail
    go_region_held3 (fun w' => w'.cell? ⟨w.heap.size, 0, none⟩ = some (.int .i64 l) ∧ w'.cell? ⟨w.heap.size, 1, none⟩ = some (.int .i64 h) ∧ w'.cell? ⟨w.heap.size, 2, none⟩ = some (.int .i64 s)) (first | go_keep | (refine ⟨?_, ?_, ?_⟩ <;> (rw [hc1 _ _ (by simp; omega)]; go_keep))) (first | (go_at_call 104; refine (nothing_any _).mono ?_; rintro e w' ⟨rfl, rfl⟩) | (go_at_call 96; refine (normal_nothing _).mono ?_; rintro e w1 ⟨rfl, hb1⟩; obtain ⟨hc1, hf1⟩ := bcell hb1))
    rename_i hH
    obtain ⟨x0, x1, x2⟩ := hH
    have hsz : w.heap.size < w1.heap.size := by have := hb1.size; simp at this; omega
    have hw1 : Below w.heap.size w w1 := (((Below.refl _ _).alloc (Nat.le_refl _) _).alloc (by simp) _).drew.trans (hb1.mono (by simp; omega))
    clear hb1 hc1 hf1 hq
    rcases hf : fmd l h s with _ | _
    · have E := Lib.hid (show chk l h s = 2 by unfold chk; rw [HC.out, hf]; simp)
      go_wp2_with (go_at_call 105; refine (formed_any _ _ _ _ hl hh hl2 hh2 hs hs2).mono ?_; rintro e w2 ⟨rfl, hb2⟩)
      go_ret
      exact ⟨by rw [E.out]; rfl, hw1.trans (hb2.mono (by omega))⟩
    · have E := Lib.hid (show chk l h s = if l < -1000000 ∨ 1000000 < h then 4 else 0 by unfold chk; rw [HC.out, hf]; simp)
      go_wp2_with fail
      refine (formed_any _ _ _ _ hl hh hl2 hh2 hs hs2).mono ?_
      rintro e w2 ⟨rfl, hb2⟩
      have y0 := (hb2.cell (p := ⟨w.heap.size, 0, none⟩) hsz).trans x0
      have y1 := (hb2.cell (p := ⟨w.heap.size, 1, none⟩) hsz).trans x1
      have hw2 := Lib.hid (hw1.trans (hb2.mono (by omega)))
      clear x0 x1 x2 hb2 hw1 hsz HC
      by_cases c1 : l < -1000000
      · go_wp2
        go_ret
        exact ⟨by rw [E.out, if_pos (Or.inl c1)]; rfl, hw2.out⟩
      · by_cases c2 : 1000000 < h
        · go_wp2
          go_ret
          exact ⟨by rw [E.out, if_pos (Or.inr c2)]; rfl, hw2.out⟩
        · go_wp2
          go_ret
          exact ⟨by rw [E.out, if_neg (by omega)]; rfl, hw2.out⟩
  · rw [hc] at hq
    have E := Lib.hid (show chk l h s = 0 by unfold chk; rw [hc]; simp)
    clear hc
    go_enter Try.func21, Try.ntmps21
    go_wp2_with fail
    go_region_held3 (fun w' => w'.cell? ⟨w.heap.size, 0, none⟩ = some (.int .i64 l) ∧ w'.cell? ⟨w.heap.size, 1, none⟩ = some (.int .i64 h) ∧ w'.cell? ⟨w.heap.size, 2, none⟩ = some (.int .i64 s)) (first | go_keep | (refine ⟨?_, ?_, ?_⟩ <;> (rw [hc1 _ _ (by simp; omega)]; go_keep))) (first | (go_at_call 104; refine (nothing_any _).mono ?_; rintro e w' ⟨rfl, rfl⟩) | (go_at_call 96; refine (normal_nothing _).mono ?_; rintro e w1 ⟨rfl, hb1⟩; obtain ⟨hc1, hf1⟩ := bcell hb1))
    have hw1 : Below w.heap.size w w1 := (((Below.refl _ _).alloc (Nat.le_refl _) _).alloc (by simp) _).drew.trans (hb1.mono (by simp; omega))
    clear hb1 hc1 hf1 hq
    go_wp2
    go_ret
    exact ⟨by rw [E.out]; rfl, hw1⟩
end Go.Proofs.Ytdifilndpilboaa
