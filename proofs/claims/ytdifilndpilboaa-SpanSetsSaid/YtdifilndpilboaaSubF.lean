/-
  slices.Equal of two slices of ranges that hold the same list.
-/
import Derived.Test.YtdifilndpilboaaSubE
import Derived.WalkKit
import Derived.Deep.RegionWith
import Derived.Deep.DeepCutAuto
import Derived.Deep.LoopGhost
import Derived.Deep.CutBlock
import Derived.WalkSpells
import Derived.WalkLawsBesides
import Derived.BigQuiet
import Derived.Deep.QuietTactic
import Derived.Deep.RegionHeld3
import Derived.Deep.DrawnRows
import Derived.Lib.Hide
namespace Go.Proofs.Ytdifilndpilboaa
open Go.RowKit

theorem neq_range (a b c a' b' c' : Int) (w : World) : (binOp .neq 23 (.agg #[.int .i64 a, .int .i64 b, .int .i64 c]) (.agg #[.int .i64 a', .int .i64 b', .int .i64 c'])).run Try.prog w = .ok (.bool (!reqB a b c a' b' c')) w := by
  unfold reqB
  by_cases h1 : a = a'
  · by_cases h2 : b = b'
    · by_cases h3 : c = c'
      · simp [go_sem, h1, h2, h3]
      · simp [go_sem, h1, h2, h3]
    · simp [go_sem, h1, h2]
  · simp [go_sem, h1]
/-- where the elements of a slice that holds a list lie -/
theorem owns_at {w : World} {base g cap : Nat} {L : List R3} (h : w.ownsRow base 23 3 (.slice (some ⟨g, 0, none⟩) L.length cap) L.length (cells3 L)) (k : Nat) (x : R3) (hx : L[k]? = some x) :
    w.cell? ⟨g, k * 3, none⟩ = some (.int .i64 x.1) ∧ w.cell? ⟨g, k * 3 + 1, none⟩ = some (.int .i64 x.2.1) ∧ w.cell? ⟨g, k * 3 + 2, none⟩ = some (.int .i64 x.2.2) := by
  have hk : k < L.length := (List.getElem?_eq_some_iff.1 hx).1
  obtain ⟨q0, q1, q2⟩ := cells3_get L k x hx
  exact ⟨(h.cellAt (k * 3) (by omega)).trans q0, (h.cellAt (k * 3 + 1) (by omega)).trans q1, (h.cellAt (k * 3 + 2) (by omega)).trans q2⟩
theorem reqB_self (a b c : Int) : reqB a b c a b c = true := by unfold reqB; simp

set_option maxRecDepth 100000 in
set_option maxHeartbeats 3200000 in
theorem equal_some (g1 g2 c1 c2 b1 b2 : Nat) (L : List R3) (w : World) (h1 : w.ownsRow b1 23 3 (.slice (some ⟨g1, 0, none⟩) L.length c1) L.length (cells3 L)) (h2 : w.ownsRow b2 23 3 (.slice (some ⟨g2, 0, none⟩) L.length c2) L.length (cells3 L)) (hn : L.length ≤ 5000) :
    Calls Try.prog 48 #[.slice (some ⟨g1, 0, none⟩) L.length c1, .slice (some ⟨g2, 0, none⟩) L.length c2] w fun e w' => e = .returned (.bool true) ∧ Below w.heap.size w w' := by
  have z1 := (h1.lt _ rfl).2
  have z2 := (h2.lt _ rfl).2
  have H1 := Lib.hid h1
  have H2 := Lib.hid h2
  clear h1 h2
  go_enter Try.func48, Try.ntmps48
  go_wp2_with fail
  go_loopg [5, 13] (L.length + 1) (fun gh _ v13 wr => ∃ k : Nat, v13 = .int .i64 k ∧ (k ≤ L.length ∧ L.length - k < gh) ∧ Below w.heap.size w wr)
  case atStart => exact ⟨0, rfl, ⟨by omega, by omega⟩, Below.refl _ _⟩
  case round =>
    obtain ⟨k, rfl, ⟨k0, kg⟩, hb⟩ := hrel
    have KG := Lib.hid kg
    clear kg
    have HB := Lib.hid hb
    clear hb
    by_cases hk : k < L.length
    · obtain ⟨x, hx⟩ : ∃ x, L[k]? = some x := ⟨L[k], List.getElem?_eq_getElem hk⟩
      obtain ⟨p0, p1, p2⟩ := owns_at H1.out k x hx
      obtain ⟨q0, q1, q2⟩ := owns_at H2.out k x hx
      have p0 := (HB.out.cell (p := ⟨g1, k * 3, none⟩) z1).trans p0
      have p1 := (HB.out.cell (p := ⟨g1, k * 3 + 1, none⟩) z1).trans p1
      have p2 := (HB.out.cell (p := ⟨g1, k * 3 + 2, none⟩) z1).trans p2
      have q0 := (HB.out.cell (p := ⟨g2, k * 3, none⟩) z2).trans q0
      have q1 := (HB.out.cell (p := ⟨g2, k * 3 + 1, none⟩) z2).trans q1
      have q2 := (HB.out.cell (p := ⟨g2, k * 3 + 2, none⟩) z2).trans q2
      obtain ⟨a, b, c⟩ := x
      have ne := neq_range a b c a b c
      rw [reqB_self] at ne
      clear hx
      go_wp2_with fail
      go_quiet (fail)
      go_wp2
      go_roundg (L.length - k)
      case measure => exact KG.out
      case rel => exact ⟨k + 1, by go_num, ⟨by omega, by omega⟩, HB.out.trans (below_drewN (Below.refl _ _) _)⟩
    · go_wp2
      exact bodyPost_ret (v := .bool true) (by simp [results, Try.results48, go_sem, *]) rfl ⟨rfl, HB.out⟩

set_option maxRecDepth 100000 in
set_option maxHeartbeats 3200000 in
theorem equal_none (a1 a2 : Option Addr) (c1 c2 : Nat) (w : World) :
    Calls Try.prog 48 #[.slice a1 0 c1, .slice a2 0 c2] w fun e w' => e = .returned (.bool true) ∧ Below w.heap.size w w' := by
  go_enter Try.func48, Try.ntmps48
  go_wp2_with fail
  go_loopg [5, 13] 1 (fun gh _ v13 wr => v13 = .int .i64 0 ∧ 0 < gh ∧ wr = w)
  case atStart => exact ⟨rfl, by omega, rfl⟩
  case round =>
    obtain ⟨rfl, h0, rfl⟩ := hrel
    go_wp2
    exact bodyPost_ret (v := .bool true) (by simp [results, Try.results48, go_sem, *]) rfl ⟨rfl, Below.refl _ _⟩

/-- slices.Equal of two slices that hold one list -/
theorem equal_any (v1 v2 : Value) (b1 b2 : Nat) (L : List R3) (w : World) (h1 : w.ownsRow b1 23 3 v1 L.length (cells3 L)) (h2 : w.ownsRow b2 23 3 v2 L.length (cells3 L)) (hn : L.length ≤ 5000) :
    Calls Try.prog 48 #[v1, v2] w fun e w' => e = .returned (.bool true) ∧ Below w.heap.size w w' := by
  by_cases h0 : L.length = 0
  · obtain ⟨a1, c1, rfl⟩ := owns_slice h1
    obtain ⟨a2, c2, rfl⟩ := owns_slice h2
    rw [h0]
    exact equal_none a1 a2 c1 c2 w
  · have r1 := h1
    have r2 := h2
    rcases h1.2 with ⟨_, q⟩ | ⟨g1, c1, _, rfl, _⟩
    · exact absurd q h0
    · rcases h2.2 with ⟨_, q⟩ | ⟨g2, c2, _, rfl, _⟩
      · exact absurd q h0
      · exact equal_some g1 g2 c1 c2 b1 b2 L w r1 r2 hn
end Go.Proofs.Ytdifilndpilboaa
