/-
  The contracts of the reference's Size and Has.
-/
import Derived.Test.YtdifilndpilboaaRefA
import Derived.WalkKit
import Derived.WalkSpells
import Derived.WalkLawsBesides
import Derived.BigQuiet
import Derived.Deep.QuietTactic
import Derived.Deep.RegionHeld3
import Derived.Deep.RegionWith
import Derived.Deep.DeepCutAuto
import Derived.Deep.DrawnRows
import Derived.Lib.Hide
namespace Go.Proofs.Ytdifilndpilboaa
open Go.RowKit

theorem refCheck_ok (l h s : Int) (w : World) (hk : Hid (chk l h s = 0)) :
    Calls Try.prog 22 #[.agg #[.int .i64 l, .int .i64 h, .int .i64 s]] w fun e w' => e = .returned (.int .i64 0) ∧ Below w.heap.size w w' := by
  have b := chk_bounds hk.out
  exact (refCheck_any l h s w ⟨by omega, by omega⟩ ⟨by omega, by omega⟩ ⟨by omega, by omega⟩).mono fun _ _ ⟨he, hb⟩ => ⟨by rw [he, hk.out], hb⟩

set_option maxHeartbeats 400000 in
theorem refSize_bad (l h s : Int) (w : World) (hl : I64 l) (hh : I64 h) (hs : I64 s) (hk : ¬ chk l h s = 0) :
    Calls Try.prog 24 #[.agg #[.int .i64 l, .int .i64 h, .int .i64 s]] w fun e w' => e = .returned (.int .i64 0) ∧ Below w.heap.size w w' := by
  have hn : (chk l h s != 0) = true := by simp [hk]
  clear hk
  go_enter Try.func24, Try.ntmps24
  go_wp2_with fail
  refine (refCheck_any l h s _ hl hh hs).mono ?_
  rintro e w1 ⟨rfl, hb1⟩
  obtain ⟨W1, s1, x0, x1, x2⟩ := box3 hb1
  clear hb1
  go_wp2
  go_ret
  exact ⟨rfl, W1.out⟩

set_option maxHeartbeats 400000 in
theorem refSize_empty (w : World) :
    Calls Try.prog 24 #[.agg #[.int .i64 1, .int .i64 0, .int .i64 1]] w fun e w' => e = .returned (.int .i64 0) ∧ Below w.heap.size w w' := by
  have e0 : reqB 1 0 1 1 0 1 = true := by decide
  go_enter Try.func24, Try.ntmps24
  go_wp2_with fail
  refine (refCheck_ok 1 0 1 _ (Lib.hid (show chk 1 0 1 = 0 by decide))).mono ?_
  rintro e w1 ⟨rfl, hb1⟩
  obtain ⟨W1, s1, x0, x1, x2⟩ := box3 hb1
  clear hb1
  go_wp2_with fail
  refine (refIsEmpty_any _ _ _ _).mono ?_
  rintro e w2 ⟨rfl, hb2⟩
  have W2 := hidTrans W1 hb2 (by omega)
  clear hb2 W1 x0 x1 x2
  go_wp2
  go_ret
  exact ⟨rfl, W2.out⟩

set_option maxHeartbeats 800000 in
theorem refSize_ok (l h s : Int) (w : World) (hk : Hid (chk l h s = 0)) (hle : l ≤ h) :
    Calls Try.prog 24 #[.agg #[.int .i64 l, .int .i64 h, .int .i64 s]] w fun e w' => e = .returned (.int .i64 (siz l h s)) ∧ Below w.heap.size w w' := by
  obtain ⟨b1, b2, b3, b4, b5, b6, b7, b8⟩ := chk_bounds hk.out
  have E := Lib.hid (siz_ok hk.out hle)
  have q1 := quo_bd (h - l) (magA s) (by omega) b7
  have e0 : reqB l h s 1 0 1 = false := by unfold reqB; simp; omega
  have hz : ¬ magA s = 0 := by omega
  have k1 : IntKind.i64.wrap (h - l) = h - l := IntWalk.i64_in _ (by omega)
  have k2 : IntKind.i64.wrap ((h - l).tdiv (magA s)) = (h - l) / magA s := IntWalk.i64_quo _ _ ⟨by omega, by omega, b7⟩
  have k3 : IntKind.i64.wrap ((h - l) / magA s + 1) = (h - l) / magA s + 1 := IntWalk.i64_in _ (by omega)
  go_enter Try.func24, Try.ntmps24
  go_wp2_with fail
  refine (refCheck_ok l h s _ hk).mono ?_
  rintro e w1 ⟨rfl, hb1⟩
  obtain ⟨W1, s1, x0, x1, x2⟩ := box3 hb1
  clear hb1
  go_wp2_with fail
  refine (refIsEmpty_any _ _ _ _).mono ?_
  rintro e w2 ⟨rfl, hb2⟩
  have W2 := hidTrans W1 hb2 (by omega)
  obtain ⟨s2, y0, y1, y2⟩ := keep3 hb2 s1 x0 x1 x2
  clear hb2 W1 x0 x1 x2 s1
  go_wp2_with fail
  go_region_held3 (fun w' => w'.cell? ⟨w.heap.size, 0, none⟩ = some (.int .i64 l) ∧ w'.cell? ⟨w.heap.size, 1, none⟩ = some (.int .i64 h) ∧ w'.cell? ⟨w.heap.size, 2, none⟩ = some (.int .i64 s)) (first | go_keep | (refine ⟨?_, ?_, ?_⟩ <;> (rw [hc1 _ _ (by simp; omega)]; go_keep))) (first | (go_at_call 103; refine (refStep_any _ _ _ _ (by omega) (by omega)).mono ?_; rintro e w3 ⟨rfl, hb3⟩; obtain ⟨hc1, hf1⟩ := bcell hb3))
  have W3 := W2.out.drew.trans (hb3.mono (by simp; omega))
  clear k1 k2 k3 hb3 hc1 hf1
  go_wp2
  go_ret
  exact ⟨by rw [E.out]; rfl, W3⟩

theorem refSize_any (l h s : Int) (w : World) (hl : I64 l) (hh : I64 h) (hs : I64 s) :
    Calls Try.prog 24 #[.agg #[.int .i64 l, .int .i64 h, .int .i64 s]] w fun e w' => e = .returned (.int .i64 (siz l h s)) ∧ Below w.heap.size w w' := by
  by_cases hk : chk l h s = 0
  · by_cases hle : l ≤ h
    · exact refSize_ok l h s w hk hle
    · obtain ⟨rfl, rfl, rfl⟩ := le_of_chk hk hle
      exact (refSize_empty w).mono fun _ _ ⟨he, hb⟩ => ⟨by rw [he]; rfl, hb⟩
  · exact (refSize_bad l h s w hl hh hs hk).mono fun _ _ ⟨he, hb⟩ => ⟨by rw [he]; unfold siz; rw [if_neg (fun c => hk c.1)], hb⟩

theorem refSize_zero (l h s : Int) (w : World) (hl : I64 l) (hh : I64 h) (hs : I64 s) (hz : Hid (siz l h s = 0)) :
    Calls Try.prog 24 #[.agg #[.int .i64 l, .int .i64 h, .int .i64 s]] w fun e w' => e = .returned (.int .i64 0) ∧ Below w.heap.size w w' :=
  (refSize_any l h s w hl hh hs).mono fun _ _ ⟨he, hb⟩ => ⟨by rw [he, hz.out], hb⟩
end Go.Proofs.Ytdifilndpilboaa
