/-
  Part 19: RDN.
-/
import Derived.Test.YtabgphlpdoockaaDp3
import Derived.Test.YtabgphlpdoockaaDp12
import Derived.Test.YtabgphlpdoockaaDp15
import Derived.Test.YtabgphlpdoockaaDp16
import Derived.BigQuiet
import Derived.Deep.CutBlock
import Derived.Deep.DeepCutAuto
import Derived.Deep.DrawnRows
import Derived.Deep.LoopGhost
import Derived.Deep.QuietTactic
import Derived.Deep.RegionHeld3
import Derived.Deep.RegionWith
import Derived.Lib.Hide
import Derived.WalkKit
import Derived.WalkLawsBesides
import Derived.WalkSpells
namespace Go.Proofs.Ytabgphlpdoockaa
open Go.RowKit
open Go.Op in
theorem eq_map (a b c a' b' c' : Int) (w : World) : (binOp .eql 60 (.agg #[.int .i64 a, .int .i64 b, .int .i64 c]) (.agg #[.int .i64 a', .int .i64 b', .int .i64 c'])).run Try.prog w = .ok (.bool (reqB a b c a' b' c')) w := by
  unfold reqB
  by_cases h1 : a = a'
  · by_cases h2 : b = b'
    · by_cases h3 : c = c'
      · simp [go_sem, h1, h2, h3]
      · simp [go_sem, h1, h2, h3]
    · simp [go_sem, h1, h2]
  · simp [go_sem, h1]
theorem reqB_same (a b c : Int) : reqB a b c a b c = true := reqB_iff.2 ⟨rfl, rfl, rfl⟩
set_option maxRecDepth 100000 in
/-- Equal of two domains that read alike -/
theorem Dequal_same (v v' : Value) (L : List R3) (k s h : Int) (w : World) (hr : Rd w v L) (hr' : Rd w v' L) (hn : L.length ≤ 5000) :
    Calls Try.prog 66 #[.agg #[v, .int .i64 k, .int .i64 s, .int .i64 h], .agg #[v', .int .i64 k, .int .i64 s, .int .i64 h]] w fun e w' => e = .returned (.bool true) ∧ Below w.heap.size w w' := by
  obtain ⟨ao, cap, rfl, hc⟩ := hr
  obtain ⟨ao', cap', rfl, hc'⟩ := hr'
  have HR : Hid (Rd w (.slice ao L.length cap) L) := Lib.hid ⟨ao, cap, rfl, hc⟩
  have HR' : Hid (Rd w (.slice ao' L.length cap') L) := Lib.hid ⟨ao', cap', rfl, hc'⟩
  have HN := Lib.hid hn
  have em := eq_map k s h k s h
  rw [reqB_same] at em
  clear hc hc' hn
  go_enter Try.func66, Try.ntmps66
  go_wp2_with fail
  refine (equalR_any _ _ L L _ ((HR.out.keep (below_new _ _)).keep (below_new _ _)) ((HR'.out.keep (below_new _ _)).keep (below_new _ _)) HN.out).mono ?_
  rintro e w1 ⟨rfl, hb1⟩
  have R1 := res44 hb1
  have B1 := Lib.hid R1.1
  have x1 := R1.2.1.c1
  have x2 := R1.2.1.c2
  have x3 := R1.2.1.c3
  have y1 := R1.2.2.c1
  have y2 := R1.2.2.c2
  have y3 := R1.2.2.c3
  have dt : decide (L = L) = true := decide_eq_true rfl
  rw [dt]
  clear hb1 R1 dt
  go_wp2
  exact bodyPost_ret (v := .bool true) (by simp [results, Try.results66, go_sem, *]) rfl ⟨rfl, B1.out⟩
end Go.Proofs.Ytabgphlpdoockaa
