/-
  Part 7: SpanB, SpanC, SpanD, SpanE, RefA, RefB, RefC, RefD, RefE, SpanF, SpanG, SpanH, AlgM, AlgE, RefM, AlgC, AlgN, PairM, AlgI, PairE, RefN, RefO, RefP, RefQ, AlgH, RefS, SubA, SubB, SubC, SubD, SubE, SubF, NumA, NumB, LawOf.
-/
import Derived.Test.YtcpeailodgoilaaKy6
import Derived.BigQuiet
import Derived.BigRegion
import Derived.Deep.AppendLies
import Derived.Deep.CutBlock
import Derived.Deep.DeepCutAuto
import Derived.Deep.DrawnRows
import Derived.Deep.LoopGhost
import Derived.Deep.QuietTactic
import Derived.Deep.RegionHeld3
import Derived.Deep.RegionLaw
import Derived.Deep.RegionWith
import Derived.Lib.Hide
import Derived.LoopIn
import Derived.LoopNIn
import Derived.Maps.AppendAt
import Derived.OwnWalkIn
import Derived.RangeFuncBound
import Derived.RangeFuncBox
import Derived.RangeFuncCalls
import Derived.RangeFuncLeaves
import Derived.RangeFuncNested
import Derived.Shelf.Abstract
import Derived.TacticsInMore
import Derived.WalkKit
import Derived.WalkLawsBesides
import Derived.WalkSpells
namespace Go.Proofs.Ytcpeailodgoilaa
open Go.RowKit Go.Op
theorem formed_div (l h s : Int) (h1 : l < h) (hl : -9223372036854775808 ≤ l) (hh : h ≤ 9223372036854775807) (_hs : s ≠ 0) :
    (IntKind.u64.wrap (IntKind.u64.wrap h - IntKind.u64.wrap l)).tmod (magA s) = (h - l) % s := by
  have e : IntKind.u64.wrap (IntKind.u64.wrap h - IntKind.u64.wrap l) = h - l := by
    rw [IntKind.wrap_u64, IntKind.wrap_u64, IntKind.wrap_u64]; omega
  rw [e, Int.tmod_eq_emod_of_nonneg (by omega)]
  unfold magA
  split
  · rw [Int.emod_neg]
  · rfl
/-- whether a range has the form of a single number, or of two or more -/
def fmd (l h s : Int) : Bool := decide ((l = h ∧ s = 1) ∨ (l < h ∧ s ≠ 0 ∧ (h - l) % s = 0))
set_option maxHeartbeats 400000 in
theorem formed_any (l h s : Int) (w : World) (hl : -9223372036854775808 ≤ l) (hh : h ≤ 9223372036854775807) (_hl2 : l ≤ 9223372036854775807) (hh2 : -9223372036854775808 ≤ h) (hs : -9223372036854775808 ≤ s) (hs2 : s ≤ 9223372036854775807) :
    Calls Try.prog 136 #[.agg #[.int .i64 l, .int .i64 h, .int .i64 s]] w fun e w' => e = .returned (.bool (fmd l h s)) ∧ Below w.heap.size w w' := by
  by_cases c1 : l = h
  · subst c1
    have E := Lib.hid (show fmd l l s = (s == 1) by unfold fmd; by_cases c : s = 1 <;> simp [c])
    go_enter Try.func136, Try.ntmps136
    go_wp2
    go_ret
    refine ⟨by rw [E.out]; rfl, ?_⟩
    repeat (first | exact Below.refl _ _ | refine Below.alloc ?_ (by simp; try omega) _ | refine Below.setCell ?_ (by simp; try omega) _ | refine Below.drew ?_)
  · have c0 : (l == h) = false := by simp [c1]
    by_cases c2 : l < h
    · by_cases c3 : s = 0
      · subst c3
        have E := Lib.hid (show fmd l h 0 = false by unfold fmd; simp [c1])
        have c4 : ((0 : Int) != 0) = false := by simp
        have c5 : decide (l < h) = true := by simp [c2]
        go_enter Try.func136, Try.ntmps136
        go_wp2_with fail
        go_quiet (fail)
        go_wp2
        go_ret
        refine ⟨by rw [E.out]; rfl, ?_⟩
        repeat (first | exact Below.refl _ _ | refine Below.alloc ?_ (by simp; try omega) _ | refine Below.setCell ?_ (by simp; try omega) _ | refine Below.drew ?_ | refine below_drewN ?_ _)
      · have E := Lib.hid (show fmd l h s = ((IntKind.u64.wrap (IntKind.u64.wrap h - IntKind.u64.wrap l)).tmod (magA s) == 0) by
          rw [formed_div l h s c2 hl hh c3]; unfold fmd; by_cases c : (h - l) % s = 0 <;> simp [c, c1, c2, c3])
        have c4 : (s != 0) = true := by simp [c3]
        have c5 : decide (l < h) = true := by simp [c2]
        have hm : ¬ magA s = 0 := by unfold magA; split <;> omega
        have hm' : (magA s == 0) = false := by simp [hm]
        go_enter Try.func136, Try.ntmps136
        go_wp2_with fail
        go_region_held3 (fun w' => w'.cell? ⟨w.heap.size, 0, none⟩ = some (.int .i64 l) ∧ w'.cell? ⟨w.heap.size, 1, none⟩ = some (.int .i64 h) ∧ w'.cell? ⟨w.heap.size, 2, none⟩ = some (.int .i64 s)) (go_keep) (first | (go_at_call 126; refine (magnitude_any _ _ (by omega) (by omega)).mono ?_; rintro e w' ⟨rfl, rfl⟩))
        go_wp2
        go_ret
        refine ⟨by rw [E.out]; rfl, ?_⟩
        repeat (first | exact Below.refl _ _ | refine Below.alloc ?_ (by simp; try omega) _ | refine Below.setCell ?_ (by simp; try omega) _ | refine Below.drew ?_)
    · have c5 : decide (l < h) = false := by simp; omega
      have E := Lib.hid (show fmd l h s = false by unfold fmd; simp [c1, c2])
      go_enter Try.func136, Try.ntmps136
      go_wp2_with fail
      go_quiet (fail)
      go_wp2
      go_ret
      refine ⟨by rw [E.out]; rfl, ?_⟩
      repeat (first | exact Below.refl _ _ | refine Below.alloc ?_ (by simp; try omega) _ | refine Below.setCell ?_ (by simp; try omega) _ | refine Below.drew ?_ | refine below_drewN ?_ _)
theorem bcell {W w1 : World} (hb : Below W.heap.size W w1) : (∀ b o, b < W.heap.size → w1.cell? ⟨b, o, none⟩ = W.cell? ⟨b, o, none⟩) ∧ (∀ b o, b < W.heap.size → w1.frozen? ⟨b, o, none⟩ = W.frozen? ⟨b, o, none⟩) :=
  ⟨fun b o h => hb.cell (p := ⟨b, o, none⟩) h, fun b o h => hb.frozen (p := ⟨b, o, none⟩) h⟩
/-- whether two ranges are equal -/
def reqB (a b c a' b' c' : Int) : Bool := decide (a = a' ∧ b = b' ∧ c = c')
theorem eq_range (a b c a' b' c' : Int) (w : World) : (binOp .eql 23 (.agg #[.int .i64 a, .int .i64 b, .int .i64 c]) (.agg #[.int .i64 a', .int .i64 b', .int .i64 c'])).run Try.prog w = .ok (.bool (reqB a b c a' b' c')) w := by
  unfold reqB
  by_cases h1 : a = a'
  · by_cases h2 : b = b'
    · by_cases h3 : c = c'
      · simp [go_sem, h1, h2, h3]
      · simp [go_sem, h1, h2, h3]
    · simp [go_sem, h1, h2]
  · simp [go_sem, h1]
theorem normal_nothing (w : World) :
    Calls Try.prog 127 #[.agg #[.int .i64 1, .int .i64 0, .int .i64 1, .bool false]] w fun e w' => e = .returned (.agg #[.int .i64 1, .int .i64 0, .int .i64 1]) ∧ Below w.heap.size w w' :=
  normal_any 1 0 1 false w (by omega) (by omega)
/-- the error of a range -/
def chk (l h s : Int) : Int := if reqB l h s 1 0 1 = true then 0 else if fmd l h s = false then 2 else if l < -1000000 ∨ 1000000 < h then 4 else 0
set_option maxHeartbeats 400000 in
theorem check_any (l h s : Int) (w : World) (hl : -9223372036854775808 ≤ l) (hh : h ≤ 9223372036854775807) (hl2 : l ≤ 9223372036854775807) (hh2 : -9223372036854775808 ≤ h) (hs : -9223372036854775808 ≤ s) (hs2 : s ≤ 9223372036854775807) :
    Calls Try.prog 26 #[.agg #[.int .i64 l, .int .i64 h, .int .i64 s]] w fun e w' => e = .returned (.int .i64 (chk l h s)) ∧ Below w.heap.size w w' := by
  have hq := eq_range l h s 1 0 1
  rcases hc : reqB l h s 1 0 1 with _ | _
  · rw [hc] at hq
    have HC := Lib.hid hc
    clear hc
    go_enter Try.func26, Try.ntmps26
    go_wp2_with fail
    go_region_held3 (fun w' => w'.cell? ⟨w.heap.size, 0, none⟩ = some (.int .i64 l) ∧ w'.cell? ⟨w.heap.size, 1, none⟩ = some (.int .i64 h) ∧ w'.cell? ⟨w.heap.size, 2, none⟩ = some (.int .i64 s)) (first | go_keep | (refine ⟨?_, ?_, ?_⟩ <;> (rw [hc1 _ _ (by simp; omega)]; go_keep))) (first | (go_at_call 135; refine (nothing_any _).mono ?_; rintro e w' ⟨rfl, rfl⟩) | (go_at_call 127; refine (normal_nothing _).mono ?_; rintro e w1 ⟨rfl, hb1⟩; obtain ⟨hc1, hf1⟩ := bcell hb1))
    rename_i hH
    obtain ⟨x0, x1, x2⟩ := hH
    have hsz : w.heap.size < w1.heap.size := by have := hb1.size; simp at this; omega
    have hw1 : Below w.heap.size w w1 := (((Below.refl _ _).alloc (Nat.le_refl _) _).alloc (by simp) _).drew.trans (hb1.mono (by simp; omega))
    clear hb1 hc1 hf1 hq
    rcases hf : fmd l h s with _ | _
    · have E := Lib.hid (show chk l h s = 2 by unfold chk; rw [HC.out, hf]; simp)
      go_wp2_with (go_at_call 136; refine (formed_any _ _ _ _ hl hh hl2 hh2 hs hs2).mono ?_; rintro e w2 ⟨rfl, hb2⟩)
      go_ret
      exact ⟨by rw [E.out]; rfl, hw1.trans (hb2.mono (by omega))⟩
    · have E := Lib.hid (show chk l h s = if l < -1000000 ∨ 1000000 < h then 4 else 0 by unfold chk; rw [HC.out, hf]; simp)
      go_wp2_with fail
      refine (formed_any _ _ _ _ hl hh hl2 hh2 hs hs2).mono ?_
      rintro e w2 ⟨rfl, hb2⟩
      have y0 := (hb2.cell (p := ⟨w.heap.size, 0, none⟩) hsz).trans x0
      have y1 := (hb2.cell (p := ⟨w.heap.size, 1, none⟩) hsz).trans x1
      have hw2 := Lib.hid (hw1.trans (hb2.mono (by omega)))
      clear x0 x1 x2 hb2 hw1 hsz HC
      by_cases c1 : l < -1000000
      · go_wp2
        go_ret
        exact ⟨by rw [E.out, if_pos (Or.inl c1)]; rfl, hw2.out⟩
      · by_cases c2 : 1000000 < h
        · go_wp2
          go_ret
          exact ⟨by rw [E.out, if_pos (Or.inr c2)]; rfl, hw2.out⟩
        · go_wp2
          go_ret
          exact ⟨by rw [E.out, if_neg (by omega)]; rfl, hw2.out⟩
  · rw [hc] at hq
    have E := Lib.hid (show chk l h s = 0 by unfold chk; rw [hc]; simp)
    clear hc
    go_enter Try.func26, Try.ntmps26
    go_wp2_with fail
    go_region_held3 (fun w' => w'.cell? ⟨w.heap.size, 0, none⟩ = some (.int .i64 l) ∧ w'.cell? ⟨w.heap.size, 1, none⟩ = some (.int .i64 h) ∧ w'.cell? ⟨w.heap.size, 2, none⟩ = some (.int .i64 s)) (first | go_keep | (refine ⟨?_, ?_, ?_⟩ <;> (rw [hc1 _ _ (by simp; omega)]; go_keep))) (first | (go_at_call 135; refine (nothing_any _).mono ?_; rintro e w' ⟨rfl, rfl⟩) | (go_at_call 127; refine (normal_nothing _).mono ?_; rintro e w1 ⟨rfl, hb1⟩; obtain ⟨hc1, hf1⟩ := bcell hb1))
    have hw1 : Below w.heap.size w w1 := (((Below.refl _ _).alloc (Nat.le_refl _) _).alloc (by simp) _).drew.trans (hb1.mono (by simp; omega))
    clear hb1 hc1 hf1 hq
    go_wp2
    go_ret
    exact ⟨by rw [E.out]; rfl, hw1⟩
end Go.Proofs.Ytcpeailodgoilaa
namespace Go.Proofs.Ytcpeailodgoilaa
open Go.RowKit
/-- an int's bounds -/
def I64 (n : Int) : Prop := -9223372036854775808 ≤ n ∧ n ≤ 9223372036854775807
theorem check64 (l h s : Int) (w : World) (hl : I64 l) (hh : I64 h) (hs : I64 s) :
    Calls Try.prog 26 #[.agg #[.int .i64 l, .int .i64 h, .int .i64 s]] w fun e w' => e = .returned (.int .i64 (chk l h s)) ∧ Below w.heap.size w w' :=
  check_any l h s w hl.1 hh.2 hl.2 hh.1 hs.1 hs.2
theorem check_ok (l h s : Int) (w : World) (hl : I64 l) (hh : I64 h) (hs : I64 s) (hk : Hid (chk l h s = 0)) :
    Calls Try.prog 26 #[.agg #[.int .i64 l, .int .i64 h, .int .i64 s]] w fun e w' => e = .returned (.int .i64 0) ∧ Below w.heap.size w w' :=
  (check64 l h s w hl hh hs).mono fun _ _ ⟨he, hb⟩ => ⟨by rw [he, hk.out], hb⟩
theorem box3 {w w1 : World} {t : TypeId} {a b c : Value} (hb : Below (w.alloc (.cells #[a, b, c] t)).heap.size (w.alloc (.cells #[a, b, c] t)) w1) :
    Hid (Below w.heap.size w w1) ∧ w.heap.size < w1.heap.size ∧ w1.cell? ⟨w.heap.size, 0, none⟩ = some a ∧ w1.cell? ⟨w.heap.size, 1, none⟩ = some b ∧ w1.cell? ⟨w.heap.size, 2, none⟩ = some c := by
  have hs : w.heap.size < (w.alloc (.cells #[a, b, c] t)).heap.size := by simp
  refine ⟨((Below.refl _ _).alloc (Nat.le_refl _) _).trans (hb.mono (by omega)), Nat.lt_of_lt_of_le hs hb.size, ?_, ?_, ?_⟩
  · rw [hb.cell (p := ⟨w.heap.size, 0, none⟩) hs]; simp [go_sem]
  · rw [hb.cell (p := ⟨w.heap.size, 1, none⟩) hs]; simp [go_sem]
  · rw [hb.cell (p := ⟨w.heap.size, 2, none⟩) hs]; simp [go_sem]
/-- two steps, the first one hidden -/
theorem hidTrans {B : Nat} {w w1 w2 : World} (h : Hid (Below B w w1)) (k : Below w1.heap.size w1 w2) (hB : B ≤ w1.heap.size) : Hid (Below B w w2) := h.out.trans (k.mono hB)
/-- what a right range is -/
theorem chk_zero {l h s : Int} (hk : chk l h s = 0) : (l = 1 ∧ h = 0 ∧ s = 1) ∨ (-1000000 ≤ l ∧ l ≤ h ∧ h ≤ 1000000 ∧ s ≠ 0 ∧ -2000000 ≤ s ∧ s ≤ 2000000 ∧ 1 ≤ magA s ∧ magA s ≤ 2000000 ∧ (h - l) % magA s = 0 ∧ (l = h → s = 1)) := by
  unfold chk at hk
  by_cases c1 : reqB l h s 1 0 1 = true
  · left; simpa [reqB] using c1
  · right
    rw [if_neg c1] at hk
    by_cases c2 : fmd l h s = false
    · rw [if_pos c2] at hk; omega
    · rw [if_neg c2] at hk
      have c3 : ¬ (l < -1000000 ∨ 1000000 < h) := by intro c3; rw [if_pos c3] at hk; omega
      have c4 : (l = h ∧ s = 1) ∨ (l < h ∧ s ≠ 0 ∧ (h - l) % s = 0) := by
        have : fmd l h s = true := by cases hf : fmd l h s <;> simp_all
        simpa [fmd] using this
      rcases c4 with ⟨rfl, rfl⟩ | ⟨c5, c6, c7⟩
      · exact ⟨by omega, by omega, by omega, by omega, by omega, by omega, by decide, by decide, by simp, fun _ => rfl⟩
      · have d : s ∣ h - l := Int.dvd_of_emod_eq_zero c7
        have hle : magA s ≤ h - l := by
          have : magA s ∣ h - l := by unfold magA; split; exact Int.neg_dvd.2 d; exact d
          exact Int.le_of_dvd (by omega) this
        have hdm : (h - l) % magA s = 0 := by
          unfold magA; split
          · rw [Int.emod_neg]; exact c7
          · exact c7
        have h1 : 1 ≤ magA s := by unfold magA; split <;> omega
        have h2 : -magA s ≤ s ∧ s ≤ magA s := by unfold magA; split <;> omega
        exact ⟨by omega, by omega, by omega, c6, by omega, by omega, h1, by omega, hdm, fun e => by omega⟩
/-- the number of numbers -/
def siz (l h s : Int) : Int := if chk l h s = 0 ∧ l ≤ h then (h - l) / magA s + 1 else 0
theorem open_empty (w : World) :
    Calls Try.prog 131 #[.agg #[.int .i64 1, .int .i64 0, .int .i64 1]] w fun e w' => e = .returned (.agg #[.int .i64 1, .int .i64 0, .int .i64 1, .bool false]) ∧ Below w.heap.size w w' :=
  (open_any 1 0 1 w (by omega) (by omega)).mono fun _ _ ⟨he, hb⟩ => ⟨he, hb⟩
set_option maxHeartbeats 400000 in
theorem size_bad (l h s : Int) (w : World) (hl : I64 l) (hh : I64 h) (hs : I64 s) (hk : ¬ chk l h s = 0) :
    Calls Try.prog 28 #[.agg #[.int .i64 l, .int .i64 h, .int .i64 s]] w fun e w' => e = .returned (.int .i64 0) ∧ Below w.heap.size w w' := by
  have hn : (chk l h s != 0) = true := by simp [hk]
  have hl := Lib.hid hl
  clear hk
  go_enter Try.func28, Try.ntmps28
  go_wp2_with fail
  refine (check64 l h s _ hl.out hh hs).mono ?_
  rintro e w1 ⟨rfl, hb1⟩
  obtain ⟨W1, -, -, -, -⟩ := box3 hb1
  clear hb1
  go_wp2
  go_ret
  exact ⟨rfl, W1.out⟩
set_option maxHeartbeats 400000 in
theorem Size_empty (w : World) :
    Calls Try.prog 28 #[.agg #[.int .i64 1, .int .i64 0, .int .i64 1]] w fun e w' => e = .returned (.int .i64 0) ∧ Below w.heap.size w w' := by
  go_enter Try.func28, Try.ntmps28
  go_wp2_with fail
  refine (check_ok 1 0 1 _ ⟨by omega, by omega⟩ ⟨by omega, by omega⟩ ⟨by omega, by omega⟩ (Lib.hid (show chk 1 0 1 = 0 by decide))).mono ?_
  rintro e w1 ⟨rfl, hb1⟩
  obtain ⟨W1, s1, x0, x1, x2⟩ := box3 hb1
  clear hb1
  go_wp2_with fail
  refine (open_empty _).mono ?_
  rintro e w2 ⟨rfl, hb2⟩
  have W2 := hidTrans W1 hb2 (by omega)
  have s2 := hb2.size
  clear hb2 W1 x0 x1 x2
  go_wp2_with fail
  refine (size_empty _).mono ?_
  rintro e w3 ⟨rfl, hb3⟩
  have W3 := hidTrans W2 hb3 (by omega)
  clear hb3 W2
  go_wp2
  go_ret
  exact ⟨rfl, W3.out⟩
set_option maxHeartbeats 400000 in
theorem size_ok (l h s : Int) (w : World) (hk : Hid (chk l h s = 0)) (hle : l ≤ h) :
    Calls Try.prog 28 #[.agg #[.int .i64 l, .int .i64 h, .int .i64 s]] w fun e w' => e = .returned (.int .i64 ((h - l) / magA s + 1)) ∧ Below w.heap.size w w' := by
  have hb : -1000000 ≤ l ∧ h ≤ 1000000 ∧ -2000000 ≤ s ∧ s ≤ 2000000 ∧ 1 ≤ magA s := by
    rcases chk_zero hk.out with ⟨rfl, rfl, rfl⟩ | ⟨a1, a2, a3, a4, a5, a6, a7, _⟩
    · omega
    · exact ⟨a1, a3, a5, a6, a7⟩
  obtain ⟨b1, b2, b3, b4, b5⟩ := hb
  go_enter Try.func28, Try.ntmps28
  go_wp2_with fail
  refine (check_ok l h s _ ⟨by omega, by omega⟩ ⟨by omega, by omega⟩ ⟨by omega, by omega⟩ hk).mono ?_
  rintro e w1 ⟨rfl, hb1⟩
  obtain ⟨W1, s1, x0, x1, x2⟩ := box3 hb1
  clear hb1
  go_wp2_with fail
  refine (open_any _ _ _ _ (by omega) (by omega)).mono ?_
  rintro e w2 ⟨rfl, hb2⟩
  have W2 := hidTrans W1 hb2 (by omega)
  have s2 := hb2.size
  clear hb2 W1 x0 x1 x2
  go_wp2_with fail
  refine (size_any _ _ _ _ _ b5 hle (by omega) (by omega)).mono ?_
  rintro e w3 ⟨rfl, hb3⟩
  have W3 := hidTrans W2 hb3 (by omega)
  clear hb3 W2
  go_wp2
  go_ret
  exact ⟨rfl, W3.out⟩
theorem Size_any (l h s : Int) (w : World) (hl : I64 l) (hh : I64 h) (hs : I64 s) :
    Calls Try.prog 28 #[.agg #[.int .i64 l, .int .i64 h, .int .i64 s]] w fun e w' => e = .returned (.int .i64 (siz l h s)) ∧ Below w.heap.size w w' := by
  by_cases hk : chk l h s = 0
  · by_cases hle : l ≤ h
    · exact (size_ok l h s w hk hle).mono fun _ _ ⟨he, hb⟩ => ⟨by rw [he]; unfold siz; rw [if_pos ⟨hk, hle⟩], hb⟩
    · rcases chk_zero hk with ⟨rfl, rfl, rfl⟩ | ⟨a1, a2, _⟩
      · exact (Size_empty w).mono fun _ _ ⟨he, hb⟩ => ⟨by rw [he]; rfl, hb⟩
      · omega
  · exact (size_bad l h s w hl hh hs hk).mono fun _ _ ⟨he, hb⟩ => ⟨by rw [he]; unfold siz; rw [if_neg (fun c => hk c.1)], hb⟩
end Go.Proofs.Ytcpeailodgoilaa
namespace Go.Proofs.Ytcpeailodgoilaa
open Go.RowKit
theorem chk_bounds {l h s : Int} (hk : chk l h s = 0) : -1000000 ≤ l ∧ l ≤ 1000000 ∧ -1000000 ≤ h ∧ h ≤ 1000000 ∧ -2000000 ≤ s ∧ s ≤ 2000000 ∧ 1 ≤ magA s ∧ magA s ≤ 2000000 := by
  rcases chk_zero hk with ⟨rfl, rfl, rfl⟩ | ⟨a1, a2, a3, a4, a5, a6, a7, a8, _⟩
  · decide
  · omega
theorem quo_bd (a b : Int) (h : 0 ≤ a) (hb : 1 ≤ b) : 0 ≤ a / b ∧ a / b ≤ a := IntWalk.tdiv_le a b h hb
/-- whether a number is in a range -/
def posB (l h s n : Int) : Bool := decide (chk l h s = 0 ∧ l ≤ n ∧ n ≤ h ∧ (n - l) % magA s = 0)
/-- its position -/
def posN (l h s n : Int) : Int := if posB l h s n = true then (if s < 0 then (h - n) / magA s else (n - l) / magA s) else 0
set_option maxHeartbeats 400000 in
theorem pos_no (l h s n : Int) (w : World) (hl : I64 l) (hh : I64 h) (hs : I64 s) (_hn : I64 n) (hp : posB l h s n = false) :
    Calls Try.prog 24 #[.agg #[.int .i64 l, .int .i64 h, .int .i64 s], .int .i64 n] w fun e w' => e = .returned (.tuple #[.int .i64 0, .bool false]) ∧ Below w.heap.size w w' := by
  by_cases hk : chk l h s = 0
  · obtain ⟨b1, b2, b3, b4, b5, b6, b7, b8⟩ := chk_bounds hk
    have HK := Lib.hid hk
    have HP := Lib.hid hp
    clear hk hp
    by_cases c1 : n < l
    · go_enter Try.func24, Try.ntmps24
      go_wp2_with fail
      refine (check_ok l h s _ hl hh hs HK).mono ?_
      rintro e w1 ⟨rfl, hb1⟩
      obtain ⟨W1, s1, x0, x1, x2⟩ := box3 hb1
      clear hb1
      go_wp2
      go_ret2
      exact ⟨rfl, W1.out⟩
    · by_cases c2 : h < n
      · go_enter Try.func24, Try.ntmps24
        go_wp2_with fail
        refine (check_ok l h s _ hl hh hs HK).mono ?_
        rintro e w1 ⟨rfl, hb1⟩
        obtain ⟨W1, s1, x0, x1, x2⟩ := box3 hb1
        clear hb1
        go_wp2
        go_ret2
        exact ⟨rfl, W1.out⟩
      · have c3 : ((n - l) % magA s != 0) = true := by
          have := HP.out
          simp only [posB, decide_eq_false_iff_not] at this
          simp only [bne_iff_ne, ne_eq]
          exact fun c => this ⟨HK.out, by omega, by omega, c⟩
        go_enter Try.func24, Try.ntmps24
        go_wp2_with fail
        refine (check_ok l h s _ hl hh hs HK).mono ?_
        rintro e w1 ⟨rfl, hb1⟩
        obtain ⟨W1, s1, x0, x1, x2⟩ := box3 hb1
        clear hb1
        go_wp2_with fail
        refine (open_any _ _ _ _ (by omega) (by omega)).mono ?_
        rintro e w2 ⟨rfl, hb2⟩
        have W2 := hidTrans W1 hb2 (by omega)
        have s2 := hb2.size
        clear hb2 W1 x0 x1 x2
        go_wp2
        go_ret2
        exact ⟨rfl, W2.out.alloc (by omega) _⟩
  · have hn : (chk l h s != 0) = true := by simp [hk]
    clear hk hp
    go_enter Try.func24, Try.ntmps24
    go_wp2_with fail
    refine (check64 l h s _ hl hh hs).mono ?_
    rintro e w1 ⟨rfl, hb1⟩
    obtain ⟨W1, s1, x0, x1, x2⟩ := box3 hb1
    clear hb1
    go_wp2
    go_ret2
    exact ⟨rfl, W1.out⟩
set_option maxHeartbeats 400000 in
theorem pos_yes (l h s n : Int) (w : World) (hp : posB l h s n = true) :
    Calls Try.prog 24 #[.agg #[.int .i64 l, .int .i64 h, .int .i64 s], .int .i64 n] w fun e w' => e = .returned (.tuple #[.int .i64 (posN l h s n), .bool true]) ∧ Below w.heap.size w w' := by
  have HP := Lib.hid hp
  simp only [posB, decide_eq_true_eq] at hp
  obtain ⟨hk, a1, a2, a3⟩ := hp
  obtain ⟨b1, b2, b3, b4, b5, b6, b7, b8⟩ := chk_bounds hk
  have HK := Lib.hid hk
  have c3 : ((n - l) % magA s != 0) = false := by simp [a3]
  have q1 := quo_bd (h - n) (magA s) (by omega) b7
  have q2 := quo_bd (n - l) (magA s) (by omega) b7
  clear hk a3
  by_cases c4 : s < 0
  · have E := Lib.hid (show posN l h s n = (h - n) / magA s by unfold posN; rw [if_pos HP.out, if_pos c4])
    have c5 : decide (s < 0) = true := by simp [c4]
    go_enter Try.func24, Try.ntmps24
    go_wp2_with fail
    refine (check_ok l h s _ ⟨by omega, by omega⟩ ⟨by omega, by omega⟩ ⟨by omega, by omega⟩ HK).mono ?_
    rintro e w1 ⟨rfl, hb1⟩
    obtain ⟨W1, s1, x0, x1, x2⟩ := box3 hb1
    clear hb1
    go_wp2_with fail
    refine (open_any _ _ _ _ (by omega) (by omega)).mono ?_
    rintro e w2 ⟨rfl, hb2⟩
    have W2 := hidTrans W1 hb2 (by omega)
    have s2 := hb2.size
    clear hb2 W1 x0 x1 x2
    go_wp2
    go_ret2
    exact ⟨by rw [E.out]; rfl, W2.out.alloc (by omega) _⟩
  · have E := Lib.hid (show posN l h s n = (n - l) / magA s by unfold posN; rw [if_pos HP.out, if_neg c4])
    have c5 : decide (s < 0) = false := by simp; omega
    go_enter Try.func24, Try.ntmps24
    go_wp2_with fail
    refine (check_ok l h s _ ⟨by omega, by omega⟩ ⟨by omega, by omega⟩ ⟨by omega, by omega⟩ HK).mono ?_
    rintro e w1 ⟨rfl, hb1⟩
    obtain ⟨W1, s1, x0, x1, x2⟩ := box3 hb1
    clear hb1
    go_wp2_with fail
    refine (open_any _ _ _ _ (by omega) (by omega)).mono ?_
    rintro e w2 ⟨rfl, hb2⟩
    have W2 := hidTrans W1 hb2 (by omega)
    have s2 := hb2.size
    clear hb2 W1 x0 x1 x2
    go_wp2
    go_ret2
    exact ⟨by rw [E.out]; rfl, W2.out.alloc (by omega) _⟩
theorem Position_any (l h s n : Int) (w : World) (hl : I64 l) (hh : I64 h) (hs : I64 s) (hn : I64 n) :
    Calls Try.prog 24 #[.agg #[.int .i64 l, .int .i64 h, .int .i64 s], .int .i64 n] w fun e w' => e = .returned (.tuple #[.int .i64 (posN l h s n), .bool (posB l h s n)]) ∧ Below w.heap.size w w' := by
  cases hp : posB l h s n
  · exact (pos_no l h s n w hl hh hs hn hp).mono fun _ _ ⟨he, hb⟩ => ⟨by rw [he]; unfold posN; rw [hp]; rfl, hb⟩
  · exact (pos_yes l h s n w hp).mono fun _ _ ⟨he, hb⟩ => ⟨he, hb⟩
end Go.Proofs.Ytcpeailodgoilaa
namespace Go.Proofs.Ytcpeailodgoilaa
open Go.RowKit
theorem siz_ok {l h s : Int} (hk : chk l h s = 0) (hle : l ≤ h) : siz l h s = (h - l) / magA s + 1 := if_pos ⟨hk, hle⟩
theorem mul_bd (k d m : Int) (h0 : 0 ≤ k) (h1 : k < d / m + 1) (hm : 1 ≤ m) : 0 ≤ k * m ∧ k * m ≤ d := by
  refine ⟨Int.mul_nonneg h0 (by omega), ?_⟩
  have h2 : k ≤ d / m := by omega
  exact (Int.le_ediv_iff_mul_le (by omega)).1 h2
theorem rem_bd (a m : Int) (h : 0 ≤ a) (hm : 1 ≤ m) : 0 ≤ a % m ∧ a % m ≤ a :=
  ⟨Int.emod_nonneg _ (by omega), by
    have := Int.mul_ediv_add_emod a m
    have h2 : 0 ≤ m * (a / m) := Int.mul_nonneg (by omega) (Int.ediv_nonneg h (by omega))
    omega⟩
end Go.Proofs.Ytcpeailodgoilaa
namespace Go.Proofs.Ytcpeailodgoilaa
open Go.RowKit
theorem refEmpty_any (w : World) :
    Calls Try.prog 129 #[] w fun e w' => e = .returned (.agg #[.int .i64 1, .int .i64 0, .int .i64 1]) ∧ w.alloc (.cells #[.int .i64 1, .int .i64 0, .int .i64 1] 23) = w' := by
  go_enter Try.func129, Try.ntmps129
  go_wp2
  exact bodyPost_ret (v := .agg #[.int .i64 1, .int .i64 0, .int .i64 1]) (by simp [results, Try.results129, go_sem]) rfl ⟨rfl, rfl⟩
set_option maxHeartbeats 400000 in
theorem refIsEmpty_any (l h s : Int) (w : World) :
    Calls Try.prog 137 #[.agg #[.int .i64 l, .int .i64 h, .int .i64 s]] w fun e w' => e = .returned (.bool (reqB l h s 1 0 1)) ∧ Below w.heap.size w w' := by
  have hq := eq_range l h s 1 0 1
  go_enter Try.func137, Try.ntmps137
  go_wp2_with fail
  go_region_held3 (fun w' => w'.cell? ⟨w.heap.size, 0, none⟩ = some (.int .i64 l) ∧ w'.cell? ⟨w.heap.size, 1, none⟩ = some (.int .i64 h) ∧ w'.cell? ⟨w.heap.size, 2, none⟩ = some (.int .i64 s)) (go_keep) (first | (go_at_call 129; refine (refEmpty_any _).mono ?_; rintro e w' ⟨rfl, rfl⟩))
  clear hq
  go_wp2
  go_ret
  refine ⟨rfl, ?_⟩
  repeat (first | exact Below.refl _ _ | refine Below.alloc ?_ (by simp; try omega) _ | refine Below.drew ?_)
end Go.Proofs.Ytcpeailodgoilaa
namespace Go.Proofs.Ytcpeailodgoilaa
open Go.RowKit
theorem ediv_mul (a m : Int) : a / m * m = a - a % m := by
  have := Int.mul_ediv_add_emod a m
  rw [Int.mul_comm] at this; omega
end Go.Proofs.Ytcpeailodgoilaa
namespace Go.Proofs.Ytcpeailodgoilaa
open Go.RowKit
/-- the error of a normal range of one number or more -/
theorem chk_nrm (l h st : Int) (dn : Bool) (h1 : l ≤ h) (h2 : 1 ≤ st) (h3 : (h - l) % st = 0) : chk (nL l h) (nH l h) (nS l h st dn) = if l < -1000000 ∨ 1000000 < h then 4 else 0 := by
  have e1 : nL l h = l := if_neg (by omega)
  have e2 : nH l h = h := if_neg (by omega)
  rw [e1, e2]
  have c1 : reqB l h (nS l h st dn) 1 0 1 = false := by unfold reqB; simp; omega
  have c2 : fmd l h (nS l h st dn) = true := by
    unfold fmd nS
    rw [if_neg (by omega)]
    by_cases c : l = h
    · simp [c]
    · rw [if_neg c]
      have d : l < h := by omega
      cases dn
      · have : st ≠ 0 := by omega
        simp [c, d, this, h3]
      · have : ¬ -st = 0 := by omega
        simp [c, d, h3, Int.emod_neg]; omega
  unfold chk; rw [c1, c2]; simp
end Go.Proofs.Ytcpeailodgoilaa
namespace Go.Proofs.Ytcpeailodgoilaa
/-- the numbers of a progression -/
def Mem (l h m n : Int) : Prop := l ≤ n ∧ n ≤ h ∧ m ∣ n - l
/-- what Euclid's algorithm keeps -/
structure EInv (a b r0 x0 r1 x1 : Int) : Prop where
  n0 : 0 ≤ r0
  n1 : 0 ≤ r1
  m0 : r0 ≤ 4000000
  m1 : r1 ≤ 4000000
  dv : ∀ d : Int, d ∣ r0 → d ∣ r1 → d ∣ a ∧ d ∣ b
  z0 : ∃ y, r0 = a * x0 + b * y
  z1 : ∃ y, r1 = a * x1 + b * y
  bd : ∃ u0 u1 : Int, 0 ≤ u0 ∧ 0 ≤ u1 ∧ u0 ≤ 4000001 ∧ u1 ≤ 4000001 ∧ u0 * r1 + u1 * r0 = b ∧ ((x0 = u0 ∧ x1 = -u1) ∨ (x0 = -u0 ∧ x1 = u1))
theorem EInv.x_bd {a b r0 x0 r1 x1 : Int} (h : EInv a b r0 x0 r1 x1) : -4000001 ≤ x0 ∧ x0 ≤ 4000001 ∧ -4000001 ≤ x1 ∧ x1 ≤ 4000001 := by
  obtain ⟨u0, u1, h0, h1, h2, h3, _, h5⟩ := h.bd
  omega
theorem EInv.q_bd {a b r0 x0 r1 x1 : Int} (h : EInv a b r0 x0 r1 x1) (hb2 : b ≤ 4000000) (hr : ¬ r1 = 0) :
    0 ≤ r0 / r1 ∧ r0 / r1 ≤ r0 ∧ 0 ≤ r0 / r1 * r1 ∧ r0 / r1 * r1 ≤ r0 ∧ -4000000 ≤ r0 / r1 * x1 ∧ r0 / r1 * x1 ≤ 4000000 := by
  have n0 := h.n0
  have n1 := h.n1
  have q := quo_bd r0 r1 n0 (by omega)
  have e := ediv_mul r0 r1
  have r := rem_bd r0 r1 n0 (by omega)
  obtain ⟨u0, u1, h0, h1, _, _, hu, h5⟩ := h.bd
  have p0 : 0 ≤ u0 * r1 := Int.mul_nonneg h0 n1
  have p1 : u1 * (r0 / r1) ≤ u1 * r0 := Int.mul_le_mul_of_nonneg_left q.2 h1
  have p2 : 0 ≤ u1 * (r0 / r1) := Int.mul_nonneg h1 q.1
  have c : r0 / r1 * u1 = u1 * (r0 / r1) := Int.mul_comm _ _
  have cn : r0 / r1 * -u1 = -(u1 * (r0 / r1)) := by rw [Int.mul_neg, c]
  refine ⟨q.1, q.2, by omega, by omega, ?_⟩
  rcases h5 with ⟨_, hx⟩ | ⟨_, hx⟩
  · rw [hx, cn]; omega
  · rw [hx, c]; omega
theorem EInv.step {a b r0 x0 r1 x1 : Int} (h : EInv a b r0 x0 r1 x1) (hb2 : b ≤ 4000000) (hr : ¬ r1 = 0) :
    EInv a b r1 x1 (r0 - r0 / r1 * r1) (x0 - r0 / r1 * x1) ∧ r0 - r0 / r1 * r1 < r1 := by
  have n0 := h.n0
  have n1 := h.n1
  have m0 := h.m0
  have m1 := h.m1
  have q := quo_bd r0 r1 n0 (by omega)
  have e := ediv_mul r0 r1
  have r := rem_bd r0 r1 n0 (by omega)
  have rl := Int.emod_lt_of_pos r0 (show 0 < r1 by omega)
  obtain ⟨u0, u1, h0, h1, h2, h3, hu, h5⟩ := h.bd
  obtain ⟨y0, z0⟩ := h.z0
  obtain ⟨y1, z1⟩ := h.z1
  have q2 := h.q_bd hb2 hr
  have c : r0 / r1 * u1 = u1 * (r0 / r1) := Int.mul_comm _ _
  have p0 : 0 ≤ u1 * (r0 / r1) := Int.mul_nonneg h1 q.1
  have key : u1 * (r0 - r0 / r1 * r1) + (u0 + u1 * (r0 / r1)) * r1 = b := by
    rw [Int.mul_sub, Int.add_mul, ← Int.mul_assoc]; omega
  have k1 : 0 ≤ u1 * (r0 - r0 / r1 * r1) := Int.mul_nonneg h1 (by omega)
  have k2 : (u0 + u1 * (r0 / r1)) * 1 ≤ (u0 + u1 * (r0 / r1)) * r1 := Int.mul_le_mul_of_nonneg_left (by omega) (by omega)
  refine ⟨⟨n1, by omega, m1, by omega, ?_, ⟨y1, z1⟩, ⟨y0 - r0 / r1 * y1, ?_⟩, ⟨u1, u0 + u1 * (r0 / r1), h1, by omega, h3, by omega, key, ?_⟩⟩, by omega⟩
  · intro d d1 d2
    refine h.dv d ?_ d1
    have : r0 = (r0 - r0 / r1 * r1) + r0 / r1 * r1 := by omega
    rw [this]
    exact Int.dvd_add d2 (Int.dvd_trans d1 (Int.dvd_mul_left _ _))
  · have e1 : a * (x0 - r0 / r1 * x1) = a * x0 - r0 / r1 * (a * x1) := by rw [Int.mul_sub, Int.mul_left_comm]
    have e2 : b * (y0 - r0 / r1 * y1) = b * y0 - r0 / r1 * (b * y1) := by rw [Int.mul_sub, Int.mul_left_comm]
    have e3 : r0 / r1 * r1 = r0 / r1 * (a * x1) + r0 / r1 * (b * y1) := by
      have := congrArg (fun t => r0 / r1 * t) z1
      simp only [Int.mul_add] at this
      exact this
    omega
  · rcases h5 with ⟨hx0, hx1⟩ | ⟨hx0, hx1⟩
    · right
      refine ⟨hx1, ?_⟩
      rw [hx0, hx1, Int.mul_neg, c]; omega
    · left
      refine ⟨hx1, ?_⟩
      rw [hx0, hx1, c]; omega
/-- what euclid returns -/
structure Gcd (a b d x : Int) : Prop where
  n : 0 ≤ d
  m : d ≤ 4000000
  da : d ∣ a
  db : d ∣ b
  z : ∃ y, d = a * x + b * y
  x1 : -4000001 ≤ x
  x2 : x ≤ 4000001
theorem EInv.done {a b r0 x0 x1 : Int} (h : EInv a b r0 x0 0 x1) : Gcd a b r0 x0 :=
  ⟨h.n0, h.m0, (h.dv r0 (Int.dvd_refl _) (Int.dvd_zero _)).1, (h.dv r0 (Int.dvd_refl _) (Int.dvd_zero _)).2, h.z0, h.x_bd.1, h.x_bd.2.1⟩
theorem Gcd.pos {a b d x : Int} (g : Gcd a b d x) (ha : 1 ≤ a) : 1 ≤ d := by
  have := g.n
  by_cases c : d = 0
  · have := g.da; rw [c] at this; have := Int.zero_dvd.1 this; omega
  · omega
theorem Gcd.le {a b d x : Int} (g : Gcd a b d x) (ha : 1 ≤ a) : d ≤ a := Int.le_of_dvd (by omega) g.da
theorem Gcd.all {a b d x e : Int} (g : Gcd a b d x) (h1 : e ∣ a) (h2 : e ∣ b) : e ∣ d := by
  obtain ⟨y, hy⟩ := g.z
  rw [hy]
  exact Int.dvd_add (Int.dvd_trans h1 (Int.dvd_mul_right _ _)) (Int.dvd_trans h2 (Int.dvd_mul_right _ _))
end Go.Proofs.Ytcpeailodgoilaa
namespace Go.Proofs.Ytcpeailodgoilaa
/-- a right range that is not empty, as steps -/
theorem steps_a {l h s : Int} (hk : chk l h s = 0) (hle : l ≤ h) : h - l = (siz l h s - 1) * magA s ∧ 1 ≤ siz l h s ∧ 1 ≤ magA s ∧ s ≠ 0 := by
  have e := siz_ok hk hle
  rcases chk_zero hk with ⟨rfl, rfl, rfl⟩ | ⟨a1, a2, a3, a4, a5, a6, a7, a8, a9, _⟩
  · omega
  · have q := quo_bd (h - l) (magA s) (by omega) a7
    refine ⟨?_, by omega, a7, a4⟩
    have := ediv_mul (h - l) (magA s)
    rw [e, show (h - l) / magA s + 1 - 1 = (h - l) / magA s by omega, this]; omega
theorem mulr_a (a b m : Int) (h : a ≤ b) (hm : 0 ≤ m) : a * m ≤ b * m := Int.mul_le_mul_of_nonneg_right h hm
theorem empty_a {l h s : Int} (_hk : chk l h s = 0) (hle : ¬ l ≤ h) : siz l h s = 0 := if_neg (fun c => hle c.2)
/-- the numbers of a range -/
def RMem (l h s n : Int) : Prop := Mem l h (magA s) n
end Go.Proofs.Ytcpeailodgoilaa
namespace Go.Proofs.Ytcpeailodgoilaa
open Go.RowKit
theorem EInv.ends {a b : Int} (hb2 : b ≤ 4000000) : ∀ (n : Nat) (r0 x0 r1 x1 : Int), EInv a b r0 x0 r1 x1 → r1.toNat ≤ n → ∃ d x, Gcd a b d x
  | n, r0, x0, r1, x1, hi, hn => by
    by_cases hz : r1 = 0
    · subst hz; exact ⟨_, _, hi.done⟩
    · obtain ⟨s1, s2⟩ := hi.step hb2 hz
      have n1 := hi.n1
      match n, hn with
      | 0, hn => omega
      | n + 1, hn => exact EInv.ends hb2 n _ _ _ _ s1 (by have := s1.n1; omega)
end Go.Proofs.Ytcpeailodgoilaa
namespace Go.Proofs.Ytcpeailodgoilaa
open Go.RowKit
/-- a block of four cells that the call itself made -/
structure Blk (g : Nat) (a b c d : Value) (w : World) : Prop where
  size : g < w.heap.size
  c0 : w.cell? ⟨g, 0, none⟩ = some a
  c1 : w.cell? ⟨g, 1, none⟩ = some b
  c2 : w.cell? ⟨g, 2, none⟩ = some c
  c3 : w.cell? ⟨g, 3, none⟩ = some d
  f0 : w.frozen? ⟨g, 0, none⟩ = false
  f1 : w.frozen? ⟨g, 1, none⟩ = false
  f2 : w.frozen? ⟨g, 2, none⟩ = false
  f3 : w.frozen? ⟨g, 3, none⟩ = false
theorem Blk.keep {g : Nat} {a b c d : Value} {w w1 : World} (k : Blk g a b c d w) (hb : Below w.heap.size w w1) : Blk g a b c d w1 :=
  ⟨Nat.lt_of_lt_of_le k.size hb.size, (hb.cell (p := ⟨g, 0, none⟩) k.size).trans k.c0, (hb.cell (p := ⟨g, 1, none⟩) k.size).trans k.c1, (hb.cell (p := ⟨g, 2, none⟩) k.size).trans k.c2, (hb.cell (p := ⟨g, 3, none⟩) k.size).trans k.c3,
    (hb.frozen (p := ⟨g, 0, none⟩) k.size).trans k.f0, (hb.frozen (p := ⟨g, 1, none⟩) k.size).trans k.f1, (hb.frozen (p := ⟨g, 2, none⟩) k.size).trans k.f2, (hb.frozen (p := ⟨g, 3, none⟩) k.size).trans k.f3⟩
theorem Blk.new (a b c d : Value) (t : TypeId) (w : World) : Blk w.heap.size a b c d (w.alloc (.cells #[a, b, c, d] t)) := by
  constructor <;> simp [go_sem]
theorem below_new (w : World) (o : Obj) : Below w.heap.size w (w.alloc o) := (Below.refl _ _).alloc (Nat.le_refl _) o
/-- four stores into a block -/
def set4 (w : World) (g : Nat) (a b c d : Value) : World := (((w.setCell ⟨g, 0, none⟩ a).setCell ⟨g, 1, none⟩ b).setCell ⟨g, 2, none⟩ c).setCell ⟨g, 3, none⟩ d
theorem Blk.other {g k : Nat} {a b c d : Value} {w : World} (h : Blk g a b c d w) (hne : g ≠ k) (a' b' c' d' : Value) : Blk g a b c d (set4 w k a' b' c' d') := by
  obtain ⟨s, c0, c1, c2, c3, f0, f1, f2, f3⟩ := h
  constructor
  · simp [set4, World.setCell]; exact s
  all_goals simp [set4, go_sem, *]
/-- what Hull's own blocks keep: the ranges, the result -/
structure HuRest (w : World) (w' : World) : Prop where
  size : w.heap.size + 1 + 1 < w'.heap.size
  below : Below w.heap.size w w'
  r : w'.cell? ⟨w.heap.size + 1 + 1, 0, none⟩ = some (.int .i64 0) ∧ w'.cell? ⟨w.heap.size + 1 + 1, 1, none⟩ = some (.int .i64 0) ∧ w'.cell? ⟨w.heap.size + 1 + 1, 2, none⟩ = some (.int .i64 0)
  f : w'.frozen? ⟨w.heap.size + 1 + 1, 0, none⟩ = false ∧ w'.frozen? ⟨w.heap.size + 1 + 1, 1, none⟩ = false ∧ w'.frozen? ⟨w.heap.size + 1 + 1, 2, none⟩ = false
def HuS (w : World) (l1 h1 s1 l2 h2 s2 : Int) (w' : World) : Prop := w'.cell? ⟨w.heap.size, 0, none⟩ = some (.int .i64 l1) ∧ w'.cell? ⟨w.heap.size, 1, none⟩ = some (.int .i64 h1) ∧ w'.cell? ⟨w.heap.size, 2, none⟩ = some (.int .i64 s1) ∧
  w'.cell? ⟨w.heap.size + 1, 0, none⟩ = some (.int .i64 l2) ∧ w'.cell? ⟨w.heap.size + 1, 1, none⟩ = some (.int .i64 h2) ∧ w'.cell? ⟨w.heap.size + 1, 2, none⟩ = some (.int .i64 s2) ∧ HuRest w w'
theorem HuS.keep {w : World} {l1 h1 s1 l2 h2 s2 : Int} {w1 w2 : World} (h : HuS w l1 h1 s1 l2 h2 s2 w1) (hb : Below (w.heap.size + 3) w1 w2) : HuS w l1 h1 s1 l2 h2 s2 w2 := by
  obtain ⟨x0, x1, x2, y0, y1, y2, z, b, r, f⟩ := h
  exact ⟨(hb.cell (p := ⟨w.heap.size, 0, none⟩) (by simp)).trans x0, (hb.cell (p := ⟨w.heap.size, 1, none⟩) (by simp)).trans x1, (hb.cell (p := ⟨w.heap.size, 2, none⟩) (by simp)).trans x2,
    (hb.cell (p := ⟨w.heap.size + 1, 0, none⟩) (by simp)).trans y0, (hb.cell (p := ⟨w.heap.size + 1, 1, none⟩) (by simp)).trans y1, (hb.cell (p := ⟨w.heap.size + 1, 2, none⟩) (by simp)).trans y2,
    Nat.lt_of_lt_of_le z hb.size, b.trans (hb.mono (by omega)),
    ⟨(hb.cell (p := ⟨w.heap.size + 1 + 1, 0, none⟩) (by simp)).trans r.1, (hb.cell (p := ⟨w.heap.size + 1 + 1, 1, none⟩) (by simp)).trans r.2.1, (hb.cell (p := ⟨w.heap.size + 1 + 1, 2, none⟩) (by simp)).trans r.2.2⟩,
    ⟨(hb.frozen (p := ⟨w.heap.size + 1 + 1, 0, none⟩) (by simp)).trans f.1, (hb.frozen (p := ⟨w.heap.size + 1 + 1, 1, none⟩) (by simp)).trans f.2.1, (hb.frozen (p := ⟨w.heap.size + 1 + 1, 2, none⟩) (by simp)).trans f.2.2⟩⟩
theorem HuS.three {w : World} {l1 h1 s1 l2 h2 s2 : Int} {w1 : World} (h : HuS w l1 h1 s1 l2 h2 s2 w1) : w.heap.size + 3 ≤ w1.heap.size := by have := h.2.2.2.2.2.2.size; omega
theorem Blk.set3 {g : Nat} {a b c d : Value} {w : World} (k : Blk g a b c d w) (d' : Value) : Blk g a b c d' (w.setCell ⟨g, 3, none⟩ d') := by
  have s := k.size
  have c0 := k.c0
  have c1 := k.c1
  have c2 := k.c2
  have c3 := k.c3
  have f0 := k.f0
  have f1 := k.f1
  have f2 := k.f2
  have f3 := k.f3
  constructor
  · simp [World.setCell]; exact s
  all_goals simp [go_sem, *]
end Go.Proofs.Ytcpeailodgoilaa
namespace Go.Proofs.Ytcpeailodgoilaa
open Go.RowKit
/-- a block of three cells that the call itself made -/
structure B3 (g : Nat) (a b c : Value) (w : World) : Prop where
  size : g < w.heap.size
  c0 : w.cell? ⟨g, 0, none⟩ = some a
  c1 : w.cell? ⟨g, 1, none⟩ = some b
  c2 : w.cell? ⟨g, 2, none⟩ = some c
  f0 : w.frozen? ⟨g, 0, none⟩ = false
  f1 : w.frozen? ⟨g, 1, none⟩ = false
  f2 : w.frozen? ⟨g, 2, none⟩ = false
theorem B3.keep {g : Nat} {a b c : Value} {w w1 : World} (k : B3 g a b c w) (hb : Below w.heap.size w w1) : B3 g a b c w1 :=
  ⟨Nat.lt_of_lt_of_le k.size hb.size, (hb.cell (p := ⟨g, 0, none⟩) k.size).trans k.c0, (hb.cell (p := ⟨g, 1, none⟩) k.size).trans k.c1, (hb.cell (p := ⟨g, 2, none⟩) k.size).trans k.c2,
    (hb.frozen (p := ⟨g, 0, none⟩) k.size).trans k.f0, (hb.frozen (p := ⟨g, 1, none⟩) k.size).trans k.f1, (hb.frozen (p := ⟨g, 2, none⟩) k.size).trans k.f2⟩
/-- three stores into a block -/
def set3 (w : World) (g : Nat) (a b c : Value) : World := ((w.setCell ⟨g, 0, none⟩ a).setCell ⟨g, 1, none⟩ b).setCell ⟨g, 2, none⟩ c
theorem set3s_below {B g : Nat} {w : World} (h : B ≤ g) (a b c : Value) : Below B w (set3 w g a b c) :=
  (((Below.refl _ _).setCell (p := ⟨g, 0, none⟩) h a).setCell (p := ⟨g, 1, none⟩) h b).setCell (p := ⟨g, 2, none⟩) h c
theorem B3.other {g k : Nat} {a b c : Value} {w : World} (h : B3 g a b c w) (hne : g ≠ k) (a' b' c' : Value) : B3 g a b c (set3 w k a' b' c') := by
  obtain ⟨s, c0, c1, c2, f0, f1, f2⟩ := h
  constructor
  · simp [set3, World.setCell]; exact s
  all_goals simp [set3, go_sem, *]
/-- the blocks of a function with two ranges and a result that is a range -/
structure T3 (w : World) (a1 a2 a3 b1 b2 b3 : Int) (w' : World) : Prop where
  below : Below w.heap.size w w'
  a : B3 w.heap.size (.int .i64 a1) (.int .i64 a2) (.int .i64 a3) w'
  b : B3 (w.heap.size + 1) (.int .i64 b1) (.int .i64 b2) (.int .i64 b3) w'
  r : B3 (w.heap.size + 1 + 1) (.int .i64 0) (.int .i64 0) (.int .i64 0) w'
theorem T3.keep {w w1 w2 : World} {a1 a2 a3 b1 b2 b3 : Int} (h : T3 w a1 a2 a3 b1 b2 b3 w1) (hb : Below w1.heap.size w1 w2) : T3 w a1 a2 a3 b1 b2 b3 w2 :=
  ⟨h.below.trans (hb.mono h.below.size), h.a.keep hb, h.b.keep hb, h.r.keep hb⟩
theorem B3.new (a b c : Value) (t : TypeId) (w : World) : B3 w.heap.size a b c (w.alloc (.cells #[a, b, c] t)) := by
  constructor <;> simp [go_sem]
theorem T3.new {w w1 : World} {t : TypeId} {a1 a2 a3 b1 b2 b3 : Int} (hb : Below (((w.alloc (.cells #[.int .i64 a1, .int .i64 a2, .int .i64 a3] t)).alloc (.cells #[.int .i64 b1, .int .i64 b2, .int .i64 b3] t)).alloc (.cells #[.int .i64 0, .int .i64 0, .int .i64 0] t)).heap.size (((w.alloc (.cells #[.int .i64 a1, .int .i64 a2, .int .i64 a3] t)).alloc (.cells #[.int .i64 b1, .int .i64 b2, .int .i64 b3] t)).alloc (.cells #[.int .i64 0, .int .i64 0, .int .i64 0] t)) w1) : T3 w a1 a2 a3 b1 b2 b3 w1 := by
  have n0 := B3.new (.int .i64 a1) (.int .i64 a2) (.int .i64 a3) t w
  have n1 := B3.new (.int .i64 b1) (.int .i64 b2) (.int .i64 b3) t (w.alloc (.cells #[.int .i64 a1, .int .i64 a2, .int .i64 a3] t))
  have n2 := B3.new (.int .i64 0) (.int .i64 0) (.int .i64 0) t ((w.alloc (.cells #[.int .i64 a1, .int .i64 a2, .int .i64 a3] t)).alloc (.cells #[.int .i64 b1, .int .i64 b2, .int .i64 b3] t))
  have m0 := (n0.keep (below_new _ _)).keep (w1 := ((w.alloc (.cells #[.int .i64 a1, .int .i64 a2, .int .i64 a3] t)).alloc (.cells #[.int .i64 b1, .int .i64 b2, .int .i64 b3] t)).alloc (.cells #[.int .i64 0, .int .i64 0, .int .i64 0] t)) (below_new _ _)
  have m1 := n1.keep (w1 := ((w.alloc (.cells #[.int .i64 a1, .int .i64 a2, .int .i64 a3] t)).alloc (.cells #[.int .i64 b1, .int .i64 b2, .int .i64 b3] t)).alloc (.cells #[.int .i64 0, .int .i64 0, .int .i64 0] t)) (below_new _ _)
  have e1 : (w.alloc (.cells #[.int .i64 a1, .int .i64 a2, .int .i64 a3] t)).heap.size = w.heap.size + 1 := by simp
  have e2 : ((w.alloc (.cells #[.int .i64 a1, .int .i64 a2, .int .i64 a3] t)).alloc (.cells #[.int .i64 b1, .int .i64 b2, .int .i64 b3] t)).heap.size = w.heap.size + 1 + 1 := by simp
  rw [e1] at m1
  rw [e2] at n2
  exact ⟨((((Below.refl _ _).alloc (Nat.le_refl _) _).alloc (by simp) _).alloc (by simp; omega) _).trans (hb.mono (by simp; omega)), m0.keep hb, m1.keep hb, n2.keep hb⟩
/-- what stands in the boxes behind the test whether one is empty -/
def Sub1 (l1 h1 s1 l2 h2 s2 a1 a2 a3 : Int) : Prop := (l1 ≤ h1 ∧ a1 = l1 ∧ a2 = h1 ∧ a3 = s1) ∨ (¬ l1 ≤ h1 ∧ a1 = l2 ∧ a2 = h2 ∧ a3 = s2)
theorem Sub1.chk {l1 h1 s1 l2 h2 s2 a1 a2 a3 : Int} (h : Sub1 l1 h1 s1 l2 h2 s2 a1 a2 a3) (hA : chk l1 h1 s1 = 0) (hB : chk l2 h2 s2 = 0) : chk a1 a2 a3 = 0 := by
  rcases h with ⟨_, rfl, rfl, rfl⟩ | ⟨_, rfl, rfl, rfl⟩ <;> assumption
end Go.Proofs.Ytcpeailodgoilaa
namespace Go.Proofs.Ytcpeailodgoilaa
open Go.RowKit
abbrev R3 := Int × Int × Int
/-- the cells of ranges, one behind the other -/
def cells3 : List R3 → List Value
  | [] => []
  | x :: L => .int .i64 x.1 :: .int .i64 x.2.1 :: .int .i64 x.2.2 :: cells3 L
theorem cells3_append (A B : List R3) : cells3 (A ++ B) = cells3 A ++ cells3 B := by
  induction A with
  | nil => rfl
  | cons x A ih => simp only [List.cons_append, cells3, ih]
theorem cells3_length (A : List R3) : (cells3 A).length = A.length * 3 := by
  induction A with
  | nil => rfl
  | cons x A ih => simp only [cells3, List.length_cons, ih]; omega
theorem cells3_get : ∀ (A : List R3) (j : Nat) (x : R3), A[j]? = some x → (cells3 A)[j * 3]? = some (.int .i64 x.1) ∧ (cells3 A)[j * 3 + 1]? = some (.int .i64 x.2.1) ∧ (cells3 A)[j * 3 + 2]? = some (.int .i64 x.2.2)
  | [], j, x, h => by simp at h
  | y :: A, 0, x, h => by simp at h; subst h; exact ⟨rfl, rfl, rfl⟩
  | y :: A, j + 1, x, h => by
    have := cells3_get A j x (by simpa using h)
    rw [show (j + 1) * 3 = j * 3 + 1 + 1 + 1 by omega]
    simpa [cells3] using this
theorem cells3_one (A : List R3) : ∀ u ∈ cells3 A, u.oneCell' = true := by
  induction A with
  | nil => intro u h; cases h
  | cons x A ih =>
    intro u h
    simp only [cells3, List.mem_cons] at h
    rcases h with rfl | rfl | rfl | h
    · rfl
    · rfl
    · rfl
    · exact ih u h
/-- the right range with ends, a step and a direction -/
def nrm (lo hi st : Int) (dn : Bool) : R3 := (nL lo hi, nH lo hi, nS lo hi st dn)
/-- a list with a range behind it, if this is not empty -/
def addP (L : List R3) (lo hi st : Int) (dn : Bool) : List R3 := if lo ≤ hi then L ++ [nrm lo hi st dn] else L
def putP (L : List R3) (l h s : Int) : List R3 := if reqB l h s 1 0 1 = true then L else L ++ [(l, h, s)]
theorem putP_nrm (L : List R3) (lo hi st : Int) (dn : Bool) : putP L (nL lo hi) (nH lo hi) (nS lo hi st dn) = addP L lo hi st dn := by
  unfold putP addP nrm nL nH nS
  by_cases c : hi < lo
  · rw [if_pos c, if_pos c, if_pos c, if_neg (by omega : ¬ lo ≤ hi), if_pos (by decide)]
  · rw [if_neg c, if_neg c, if_neg c, if_pos (by omega : lo ≤ hi), if_neg]
    unfold reqB
    simp; omega
theorem owns_below {w w' : World} {base : Nat} {e : TypeId} {size : Nat} {v : Value} {n : Nat} {xs : List Value} (h : w.ownsRow base e size v n xs) (hb : Below w.heap.size w w') : w'.ownsRow base e size v n xs := by
  refine ⟨h.1, ?_⟩
  rcases h.2 with hn | ⟨g, cap, cur, rfl, hg, hgg, rest⟩
  · exact Or.inl hn
  · exact Or.inr ⟨g, cap, cur, rfl, hg, by rw [hb.block g (Array.getElem?_eq_some_iff.1 hgg).1]; exact hgg, rest⟩
theorem owns_base {w : World} {base base' : Nat} {e : TypeId} {size : Nat} {v : Value} {n : Nat} {xs : List Value} (h : w.ownsRow base e size v n xs) (hb : base' ≤ base) : w.ownsRow base' e size v n xs := by
  refine ⟨h.1, ?_⟩
  rcases h.2 with hn | ⟨g, cap, cur, hv, hg, rest⟩
  · exact Or.inl hn
  · exact Or.inr ⟨g, cap, cur, hv, Nat.le_trans hb hg, rest⟩
theorem owns_slice {w : World} {base : Nat} {e : TypeId} {size : Nat} {v : Value} {n : Nat} {xs : List Value} (h : w.ownsRow base e size v n xs) : ∃ ao cap, v = .slice ao n cap := by
  rcases h.2 with ⟨rfl, rfl⟩ | ⟨g, cap, cur, rfl, _⟩
  · exact ⟨none, 0, rfl⟩
  · exact ⟨_, cap, rfl⟩
theorem Try.infoRange : (Try.prog.info? 23).map (fun i => (i.zero, i.size, i.bytes)) = some (some (.agg #[.int .i64 0, .int .i64 0, .int .i64 0]), 3, 24) := by kernel_rfl
/-- what put returns -/
def PutRet (base : Nat) (L : List R3) (w : World) : Ending → World → Prop := fun e w' => ∃ v, e = .returned v ∧ w'.ownsRow base 23 3 v L.length (cells3 L) ∧ Below base w w'
set_option maxHeartbeats 1600000 in
theorem put_any (v : Value) (L : List R3) (l h s : Int) (base : Nat) (w : World) (hown : w.ownsRow base 23 3 v L.length (cells3 L)) (hb : base ≤ w.heap.size) (hn : L.length ≤ 5000) :
    Calls Try.prog 152 #[v, .agg #[.int .i64 l, .int .i64 h, .int .i64 s]] w (PutRet base (putP L l h s) w) := by
  obtain ⟨i0, hi, hz0, hz1, hz2⟩ := info_parts Try.infoRange
  have hl := cells3_length L
  have OWN := Lib.hid hown
  clear hown
  go_enter Try.func152, Try.ntmps152
  go_wp2_with fail
  refine (refIsEmpty_any _ _ _ _).mono ?_
  rintro e w1 ⟨rfl, hb1⟩
  have OWN1 := Lib.hid (owns_below (OWN.out.alloc _) hb1)
  obtain ⟨W1, z1, x0, x1, x2⟩ := box3 hb1
  clear hb1 OWN
  cases hq : reqB l h s 1 0 1
  · go_wp2_with (first | (at_builtin; refine wpList_append_own _ rfl (.tmp 8) (.tmp 10) 40 rfl base 23 i0 (.agg #[.int .i64 0, .int .i64 0, .int .i64 0]) 3 24 Try.underlying40 hi hz0 hz1 hz2 rfl (by decide) v L.length (cells3 L) rfl (OWN1.out.alloc _) ⟨w1.heap.size, 0, none⟩ 1 1 (cells3 [(l, h, s)]) rfl rfl ?c1 ?c2 ?c3 ?c4 ?c5 ?_))
    case c1 => exact World.news_of_block (cs := #[.int .i64 l, .int .i64 h, .int .i64 s]) (t := 23) (fr := (0, 0)) (heap_alloc_new w1 _)
    case c2 => exact cells3_one _
    case c3 => unfold maxLen; omega
    case c4 => omega
    case c5 => simp; omega
    intro v' w2 own2 grow2 _
    have W2 : Hid (Below base w w2) := Lib.hid (((W1.out.mono hb).alloc (by omega) _).grown grow2 (by simp; omega) (fun k hk => (OWN1.out.lt k hk).1))
    have e1 : putP L l h s = L ++ [(l, h, s)] := by unfold putP; rw [hq]; rfl
    have O2 : Hid (w2.ownsRow base 23 3 v' (putP L l h s).length (cells3 (putP L l h s))) := Lib.hid (by rw [e1, cells3_append, List.length_append]; exact own2)
    clear own2 grow2 e1 hq OWN1 W1 x0 x1 x2
    go_wp2
    exact bodyPost_ret (v := v') (by simp [results, Try.results152, go_sem, *]) rfl ⟨v', rfl, O2.out, W2.out⟩
  · have O2 : Hid (w1.ownsRow base 23 3 v (putP L l h s).length (cells3 (putP L l h s))) := Lib.hid (by unfold putP; rw [hq]; exact OWN1.out)
    clear hq OWN1
    go_wp2
    exact bodyPost_ret (v := v) (by simp [results, Try.results152, go_sem, *]) rfl ⟨v, rfl, O2.out, W1.out.mono hb⟩
/-- put of a normal range -/
theorem put_nrm (v : Value) (L : List R3) (lo hi st : Int) (dn : Bool) (base : Nat) (w : World) (hown : w.ownsRow base 23 3 v L.length (cells3 L)) (hb : base ≤ w.heap.size) (hn : L.length ≤ 5000) :
    Calls Try.prog 152 #[v, .agg #[.int .i64 (nL lo hi), .int .i64 (nH lo hi), .int .i64 (nS lo hi st dn)]] w (PutRet base (addP L lo hi st dn) w) := by
  rw [← putP_nrm]
  exact put_any v L _ _ _ base w hown hb hn
end Go.Proofs.Ytcpeailodgoilaa
namespace Go.Proofs.Ytcpeailodgoilaa
open Go.RowKit
/-- below block B only block g may have changed -/
structure Apart (B g : Nat) (w w' : World) : Prop where
  os : w'.os = w.os
  tape : w'.tape = w.tape
  output : w'.output = w.output
  size : w.heap.size ≤ w'.heap.size
  block : ∀ k, k < B → k ≠ g → w'.heap[k]? = w.heap[k]?
theorem Apart.cell {B g : Nat} {w w' : World} (h : Apart B g w w') {p : Addr} (hp : p.block < B) (hg : p.block ≠ g) : w'.cell? p = w.cell? p := World.cell?_of_block (w := w) (h.block p.block hp hg)
theorem Apart.below {B g C : Nat} {w w' : World} (h : Apart B g w w') (h1 : C ≤ g) (h2 : C ≤ B) : Below C w w' := ⟨h.os, h.tape, h.output, h.size, fun k hk => h.block k (by omega) (by omega)⟩
theorem Apart.setCell {B g : Nat} {a w : World} (h : Apart B g a w) (u : Value) : Apart B g a (w.setCell ⟨g, 0, none⟩ u) :=
  ⟨h.os, h.tape, h.output, by simpa [World.setCell] using h.size, fun k hk hg => (Below.heap_setCell w ⟨g, 0, none⟩ u k hg).trans (h.block k hk hg)⟩
/-- the variable g holds a slice of a list -/
def HoldsL (base g : Nat) (L : List R3) (w : World) : Prop := ∃ ao cap, w.cell? ⟨g, 0, none⟩ = some (.slice ao L.length cap) ∧ w.frozen? ⟨g, 0, none⟩ = false ∧ w.ownsRow base 23 3 (.slice ao L.length cap) L.length (cells3 L)
end Go.Proofs.Ytcpeailodgoilaa
namespace Go.Proofs.Ytcpeailodgoilaa
open Go.RowKit
/-- without's blocks: both progressions, and the list so far -/
structure WSt (w : World) (l1 h1 m : Int) (dn : Bool) (l h t : Int) (dn2 : Bool) (L : List R3) (wx : World) : Prop where
  a0 : wx.cell? ⟨w.heap.size, 0, none⟩ = some (.int .i64 l1)
  a1 : wx.cell? ⟨w.heap.size, 1, none⟩ = some (.int .i64 h1)
  a2 : wx.cell? ⟨w.heap.size, 2, none⟩ = some (.int .i64 m)
  a3 : wx.cell? ⟨w.heap.size, 3, none⟩ = some (.bool dn)
  c0 : wx.cell? ⟨w.heap.size + 1, 0, none⟩ = some (.int .i64 l)
  c1 : wx.cell? ⟨w.heap.size + 1, 1, none⟩ = some (.int .i64 h)
  c2 : wx.cell? ⟨w.heap.size + 1, 2, none⟩ = some (.int .i64 t)
  size : w.heap.size + 3 ≤ wx.heap.size
  below : Below w.heap.size w wx
  holds : HoldsL (w.heap.size + 3) (w.heap.size + 1 + 1) L wx
theorem WSt.step {w : World} {l1 h1 m : Int} {dn : Bool} {l h t : Int} {dn2 : Bool} {L L' : List R3} {wx wy : World} (s : WSt w l1 h1 m dn l h t dn2 L wx) (hL : HoldsL (w.heap.size + 3) (w.heap.size + 1 + 1) L' wy) (ap : Apart (w.heap.size + 3) (w.heap.size + 1 + 1) wx wy) : WSt w l1 h1 m dn l h t dn2 L' wy :=
  ⟨(ap.cell (p := ⟨w.heap.size, 0, none⟩) (by simp) (by simp; omega)).trans s.a0, (ap.cell (p := ⟨w.heap.size, 1, none⟩) (by simp) (by simp; omega)).trans s.a1, (ap.cell (p := ⟨w.heap.size, 2, none⟩) (by simp) (by simp; omega)).trans s.a2, (ap.cell (p := ⟨w.heap.size, 3, none⟩) (by simp) (by simp; omega)).trans s.a3,
    (ap.cell (p := ⟨w.heap.size + 1, 0, none⟩) (by simp) (by simp)).trans s.c0, (ap.cell (p := ⟨w.heap.size + 1, 1, none⟩) (by simp) (by simp)).trans s.c1, (ap.cell (p := ⟨w.heap.size + 1, 2, none⟩) (by simp) (by simp)).trans s.c2,
    Nat.le_trans s.size ap.size, s.below.trans (ap.below (by omega) (by omega)), hL⟩
theorem WSt.new {w : World} {l1 h1 m : Int} {dn : Bool} {l h t : Int} {dn2 : Bool} {ta tb tc : TypeId} : WSt w l1 h1 m dn l h t dn2 [] (((w.alloc (.cells #[.int .i64 l1, .int .i64 h1, .int .i64 m, .bool dn] ta)).alloc (.cells #[.int .i64 l, .int .i64 h, .int .i64 t, .bool dn2] tb)).alloc (.cells #[.slice none 0 0] tc)) := by
  constructor
  all_goals try (simp [go_sem]; done)
  · exact (((Below.refl _ _).alloc (Nat.le_refl _) _).alloc (by simp) _).alloc (by simp; omega) _
  · exact ⟨none, 0, by simp [go_sem], by simp [go_sem], World.ownsRow_nil _ _ _ _⟩
end Go.Proofs.Ytcpeailodgoilaa
namespace Go.Proofs.Ytcpeailodgoilaa
open Go.RowKit
/-- Subtract's blocks: the two ranges, the first one's progression -/
structure SuS (w : World) (l1 h1 s1 l2 h2 s2 : Int) (gw : Nat) (w' : World) : Prop where
  below : Below w.heap.size w w'
  a : B3 w.heap.size (.int .i64 l1) (.int .i64 h1) (.int .i64 s1) w'
  b : B3 (w.heap.size + 1) (.int .i64 l2) (.int .i64 h2) (.int .i64 s2) w'
  p : Blk gw (.int .i64 l1) (.int .i64 h1) (.int .i64 (magA s1)) (.bool (decide (s1 < 0))) w'
theorem SuS.keep {w : World} {l1 h1 s1 l2 h2 s2 : Int} {gw : Nat} {w1 w2 : World} (h : SuS w l1 h1 s1 l2 h2 s2 gw w1) (hb : Below w1.heap.size w1 w2) : SuS w l1 h1 s1 l2 h2 s2 gw w2 :=
  ⟨h.below.trans (hb.mono h.below.size), h.a.keep hb, h.b.keep hb, h.p.keep hb⟩
theorem blk_other3 {g k : Nat} {a b c d : Value} {w : World} (h : Blk g a b c d w) (hne : g ≠ k) (a' b' c' : Value) : Blk g a b c d (set3 w k a' b' c') := by
  obtain ⟨s, c0, c1, c2, c3, f0, f1, f2, f3⟩ := h
  constructor
  · simp [set3, World.setCell]; exact s
  all_goals simp [set3, go_sem, *]
theorem SuS.store {w : World} {l1 h1 s1 l2 h2 s2 : Int} {gw : Nat} {w1 : World} (h : SuS w l1 h1 s1 l2 h2 s2 gw w1) {g : Nat} (_k1 : w.heap.size < g) (k2 : w.heap.size + 1 < g) (k3 : gw < g) (a b c : Value) : SuS w l1 h1 s1 l2 h2 s2 gw (set3 w1 g a b c) :=
  ⟨h.below.trans (set3s_below (by omega) _ _ _), h.a.other (by omega) _ _ _, h.b.other (by omega) _ _ _, blk_other3 h.p (by omega) _ _ _⟩
def SuP (w : World) (l1 h1 s1 l2 h2 s2 : Int) (gw : Nat) (w' : World) : Prop := w'.cell? ⟨gw, 0, none⟩ = some (.int .i64 l1) ∧ w'.cell? ⟨gw, 1, none⟩ = some (.int .i64 h1) ∧ w'.cell? ⟨gw, 2, none⟩ = some (.int .i64 (magA s1)) ∧ w'.cell? ⟨gw, 3, none⟩ = some (.bool (decide (s1 < 0))) ∧ w'.cell? ⟨w.heap.size + 1, 0, none⟩ = some (.int .i64 l2) ∧ w'.cell? ⟨w.heap.size + 1, 1, none⟩ = some (.int .i64 h2) ∧ w'.cell? ⟨w.heap.size + 1, 2, none⟩ = some (.int .i64 s2) ∧ SuS w l1 h1 s1 l2 h2 s2 gw w'
theorem SuS.all {w : World} {l1 h1 s1 l2 h2 s2 : Int} {gw : Nat} {w1 : World} (h : SuS w l1 h1 s1 l2 h2 s2 gw w1) : SuP w l1 h1 s1 l2 h2 s2 gw w1 :=
  ⟨h.p.c0, h.p.c1, h.p.c2, h.p.c3, h.b.c0, h.b.c1, h.b.c2, h⟩
end Go.Proofs.Ytcpeailodgoilaa
namespace Go.Proofs.Ytcpeailodgoilaa
open Go.RowKit
/-- the reference's Subtract: its boxes, and the list so far -/
structure RSt (w : World) (l1 h1 s1 l h s : Int) (cb base : Nat) (v : Value) (L : List R3) (wx : World) : Prop where
  below : Below w.heap.size w wx
  a : B3 w.heap.size (.int .i64 l1) (.int .i64 h1) (.int .i64 s1) wx
  c : B3 cb (.int .i64 l) (.int .i64 h) (.int .i64 s) wx
  own : wx.ownsRow base 23 3 v L.length (cells3 L)
  size : base ≤ wx.heap.size
  lt : cb < base
  lt2 : w.heap.size < base
theorem RSt.keep {w : World} {l1 h1 s1 l h s : Int} {cb base : Nat} {v : Value} {L : List R3} {w1 w2 : World} (r : RSt w l1 h1 s1 l h s cb base v L w1) (hb : Below w1.heap.size w1 w2) : RSt w l1 h1 s1 l h s cb base v L w2 :=
  ⟨r.below.trans (hb.mono r.below.size), r.a.keep hb, r.c.keep hb, owns_below r.own hb, Nat.le_trans r.size hb.size, r.lt, r.lt2⟩
theorem b3_under {g B : Nat} {a b c : Value} {w w1 : World} (k : B3 g a b c w) (hb : Below B w w1) (hg : g < B) : B3 g a b c w1 :=
  ⟨Nat.lt_of_lt_of_le k.size hb.size, (hb.cell (p := ⟨g, 0, none⟩) hg).trans k.c0, (hb.cell (p := ⟨g, 1, none⟩) hg).trans k.c1, (hb.cell (p := ⟨g, 2, none⟩) hg).trans k.c2,
    (hb.frozen (p := ⟨g, 0, none⟩) hg).trans k.f0, (hb.frozen (p := ⟨g, 1, none⟩) hg).trans k.f1, (hb.frozen (p := ⟨g, 2, none⟩) hg).trans k.f2⟩
theorem RSt.put {w : World} {l1 h1 s1 l h s : Int} {cb base : Nat} {v : Value} {L : List R3} {w1 : World} (r : Hid (RSt w l1 h1 s1 l h s cb base v L w1)) (lo hi st : Int) (dn : Bool) (hn : L.length ≤ 5000) :
    Calls Try.prog 152 #[v, .agg #[.int .i64 (nL lo hi), .int .i64 (nH lo hi), .int .i64 (nS lo hi st dn)]] w1 fun e w2 => ∃ v2, e = .returned v2 ∧ Hid (RSt w l1 h1 s1 l h s cb base v2 (addP L lo hi st dn) w2) :=
  (put_nrm v L lo hi st dn base w1 r.out.own r.out.size hn).mono fun _ _ ⟨v2, he, ho, hb⟩ => ⟨v2, he, r.out.below.trans (hb.mono (by have := r.out.lt2; omega)), b3_under r.out.a hb r.out.lt2, b3_under r.out.c hb r.out.lt, ho, Nat.le_trans r.out.size hb.size, r.out.lt, r.out.lt2⟩
end Go.Proofs.Ytcpeailodgoilaa
namespace Go.Proofs.Ytcpeailodgoilaa
open Go.RowKit
/-- where the elements of a slice that holds a list lie -/
theorem owns_at {w : World} {base g cap : Nat} {L : List R3} (h : w.ownsRow base 23 3 (.slice (some ⟨g, 0, none⟩) L.length cap) L.length (cells3 L)) (k : Nat) (x : R3) (hx : L[k]? = some x) :
    w.cell? ⟨g, k * 3, none⟩ = some (.int .i64 x.1) ∧ w.cell? ⟨g, k * 3 + 1, none⟩ = some (.int .i64 x.2.1) ∧ w.cell? ⟨g, k * 3 + 2, none⟩ = some (.int .i64 x.2.2) := by
  have hk : k < L.length := (List.getElem?_eq_some_iff.1 hx).1
  obtain ⟨q0, q1, q2⟩ := cells3_get L k x hx
  exact ⟨(h.cellAt (k * 3) (by omega)).trans q0, (h.cellAt (k * 3 + 1) (by omega)).trans q1, (h.cellAt (k * 3 + 2) (by omega)).trans q2⟩
end Go.Proofs.Ytcpeailodgoilaa
namespace Go.Proofs.Ytcpeailodgoilaa
open Go.RowKit Go.Shelf
attribute [local go_sem] Oper.semAt_some
/-- the number at a position -/
def nthV (l h s : Int) (k : Nat) : Int := if s < 0 then h - (k : Int) * magA s else l + (k : Int) * magA s
/-- the first k numbers of a range, in its order -/
def numsU (l h s : Int) (k : Nat) : List Int := (List.range k).map (nthV l h s)
/-- the numbers of a range, in its order -/
def numsL (l h s : Int) : List Int := numsU l h s (siz l h s).toNat
theorem heap_keep {w w' : World} {k : Nat} {o : Obj} (h : w.heap[k]? = some o) (hb : Below w.heap.size w w') : w'.heap[k]? = some o := (hb.block k (Array.getElem?_eq_some_iff.1 h).1).trans h
theorem row3 {w : World} {g : Nat} {a b c : Value} {t : TypeId} (h : w.heap[g]? = some (.cells #[a, b, c] t (0, 0))) : w.cell? ⟨g, 0, none⟩ = some a ∧ w.cell? ⟨g, 1, none⟩ = some b ∧ w.cell? ⟨g, 2, none⟩ = some c := by
  refine ⟨?_, ?_, ?_⟩ <;> simp [World.cell?, h]
theorem row4 {w : World} {g : Nat} {a b c d : Value} {t : TypeId} (h : w.heap[g]? = some (.cells #[a, b, c, d] t (0, 0))) : w.cell? ⟨g, 0, none⟩ = some a ∧ w.cell? ⟨g, 1, none⟩ = some b ∧ w.cell? ⟨g, 2, none⟩ = some c ∧ w.cell? ⟨g, 3, none⟩ = some d := by
  refine ⟨?_, ?_, ?_, ?_⟩ <;> simp [World.cell?, h]
theorem siz_bdn {l h s : Int} (hk : chk l h s = 0) : 0 ≤ siz l h s ∧ siz l h s ≤ 2000001 := by
  have bA := chk_bounds hk
  by_cases c : l ≤ h
  · have := quo_bd (h - l) (magA s) (by omega) (by omega)
    rw [siz_ok hk c]; omega
  · have := empty_a hk c; omega
end Go.Proofs.Ytcpeailodgoilaa
namespace Go.Proofs.Ytcpeailodgoilaa
open Go.RowKit Go.Shelf
attribute [local go_sem] Oper.semAt_some
theorem Try.infoInt : (Try.prog.info? 3).map (fun i => (i.zero, i.size, i.bytes)) = some (some (.int .i64 0), 1, 8) := by kernel_rfl
end Go.Proofs.Ytcpeailodgoilaa
