/-
  slices.Equal of parts of slices of ints, and slices.EqualFunc with the closure of SpanMoves.
-/
import Derived.Test.YtdifilndpilboaaSortA
import Derived.WalkKit
import Derived.Deep.RegionWith
import Derived.Deep.DeepCutAuto
import Derived.Deep.LoopGhost
import Derived.Deep.CutBlock
import Derived.WalkSpells
import Derived.WalkLawsBesides
import Derived.BigQuiet
import Derived.Deep.QuietTactic
import Derived.Deep.RegionHeld3
import Derived.Deep.DrawnRows
import Derived.Lib.Hide
namespace Go.Proofs.Ytdifilndpilboaa
open Go.RowKit

set_option maxRecDepth 100000 in
set_option maxHeartbeats 3200000 in
theorem equalC (g1 o1 g2 o2 c1 c2 : Nat) (xs : List Int) (w : World) (h1 : ∀ j x, xs[j]? = some x → w.cell? ⟨g1, o1 + j, none⟩ = some (.int .i64 x)) (h2 : ∀ j x, xs[j]? = some x → w.cell? ⟨g2, o2 + j, none⟩ = some (.int .i64 x)) (z1 : g1 < w.heap.size) (z2 : g2 < w.heap.size) (hn : xs.length ≤ 5000) :
    Calls Try.prog 52 #[.slice (some ⟨g1, o1, none⟩) xs.length c1, .slice (some ⟨g2, o2, none⟩) xs.length c2] w fun e w' => e = .returned (.bool true) ∧ Below w.heap.size w w' := by
  have H1 := Lib.hid h1
  have H2 := Lib.hid h2
  clear h1 h2
  go_enter Try.func52, Try.ntmps52
  go_wp2_with fail
  go_loopg [5, 13] (xs.length + 1) (fun gh _ v13 wr => ∃ k : Nat, v13 = .int .i64 k ∧ (k ≤ xs.length ∧ xs.length - k < gh) ∧ Below w.heap.size w wr)
  case atStart => exact ⟨0, rfl, ⟨by omega, by omega⟩, Below.refl _ _⟩
  case round =>
    obtain ⟨k, rfl, ⟨k0, kg⟩, hb⟩ := hrel
    have KG := Lib.hid kg
    clear kg
    have HB := Lib.hid hb
    clear hb
    by_cases hk : k < xs.length
    · obtain ⟨x, hx⟩ : ∃ x, xs[k]? = some x := ⟨xs[k], List.getElem?_eq_getElem hk⟩
      have p0 : wr.cell? ⟨g1, o1 + k, none⟩ = some (.int .i64 x) := (HB.out.cell (p := ⟨g1, o1 + k, none⟩) z1).trans (H1.out k x hx)
      have q0 : wr.cell? ⟨g2, o2 + k, none⟩ = some (.int .i64 x) := (HB.out.cell (p := ⟨g2, o2 + k, none⟩) z2).trans (H2.out k x hx)
      clear hx
      go_wp2_with fail
      go_quiet (fail)
      go_wp2
      go_roundg (xs.length - k)
      case measure => exact KG.out
      case rel => exact ⟨k + 1, by go_num, ⟨by omega, by omega⟩, HB.out.trans (below_drewN (Below.refl _ _) _)⟩
    · go_wp2
      exact bodyPost_ret (v := .bool true) (by simp [results, Try.results52, go_sem, *]) rfl ⟨rfl, HB.out⟩

theorem addClo (x y n : Int) (b : Nat) (w : World) (hc : w.cell? ⟨b, 0, none⟩ = some (.int .i64 n)) (he : Hid (x = y + n)) (y1 : -1000000 ≤ y) (y2 : y ≤ 1000000) (n1 : 0 ≤ n) (n2 : n ≤ 400) :
    Calls Try.prog 54 #[.int .i64 x, .int .i64 y, .pointer (some ⟨b, 0, none⟩)] w fun e w' => e = .returned (.bool true) ∧ w = w' := by
  have e1 : (x == y + n) = true := by simpa using he.out
  go_enter Try.func54, Try.ntmps54
  go_wp2
  go_ret
  exact ⟨rfl, rfl⟩

set_option maxRecDepth 100000 in
set_option maxHeartbeats 3200000 in
theorem eqFunc_add (g1 g2 c1 c2 b1 b2 b : Nat) (n : Int) (xs : List Int) (w : World) (h1 : w.ownsRow b1 3 1 (.slice (some ⟨g1, 0, none⟩) xs.length c1) xs.length ((xs.map (· + n)).map (Value.int .i64))) (h2 : w.ownsRow b2 3 1 (.slice (some ⟨g2, 0, none⟩) xs.length c2) xs.length (xs.map (Value.int .i64)))
    (hc : w.cell? ⟨b, 0, none⟩ = some (.int .i64 n)) (hx : Hid (∀ x ∈ xs, -1000000 ≤ x ∧ x ≤ 1000000)) (n1 : 0 ≤ n) (n2 : n ≤ 400) (hn : xs.length ≤ 5000) :
    Calls Try.prog 53 #[.slice (some ⟨g1, 0, none⟩) xs.length c1, .slice (some ⟨g2, 0, none⟩) xs.length c2, .func (.func 54) #[] #[.pointer (some ⟨b, 0, none⟩)]] w fun e w' => e = .returned (.bool true) ∧ Below w.heap.size w w' := by
  have z1 := (h1.lt _ rfl).2
  have z2 := (h2.lt _ rfl).2
  have H1 := Lib.hid h1
  have H2 := Lib.hid h2
  clear h1 h2
  go_enter Try.func53, Try.ntmps53
  go_wp2_with fail
  go_loopg [7, 8, 9, 17] (xs.length + 1) (fun gh _ _ _ v17 wr => ∃ k : Nat, v17 = .int .i64 k ∧ (k ≤ xs.length ∧ xs.length - k < gh) ∧ wr = w)
  case atStart => exact ⟨0, rfl, ⟨by omega, by omega⟩, rfl⟩
  case round =>
    obtain ⟨k, rfl, ⟨k0, kg⟩, rfl⟩ := hrel
    have KG := Lib.hid kg
    clear kg
    by_cases hk : k < xs.length
    · obtain ⟨x, hxk⟩ : ∃ x, xs[k]? = some x := ⟨xs[k], List.getElem?_eq_getElem hk⟩
      have p0 : wr.cell? ⟨g1, k, none⟩ = some (.int .i64 (x + n)) := (H1.out.cellAt k (by omega)).trans (by simp [hxk])
      have q0 : wr.cell? ⟨g2, k, none⟩ = some (.int .i64 x) := (H2.out.cellAt k (by omega)).trans (by simp [hxk])
      have xb := hx.out x (List.mem_of_getElem? hxk)
      clear hxk
      have jk : IntKind.i64.wrap ((k : Int) + 1) = (k : Int) + 1 := IntWalk.i64_in _ (by omega)
      go_wp2_with fail
      refine (addClo (x + n) x n b _ hc (Lib.hid rfl) xb.1 xb.2 n1 n2).mono ?_
      rintro e w1 ⟨rfl, rfl⟩
      go_wp2
      go_roundg (xs.length - k)
      case measure => exact KG.out
      case rel => exact ⟨k + 1, by go_num, ⟨by omega, by omega⟩, rfl⟩
    · go_wp2
      exact bodyPost_ret (v := .bool true) (by simp [results, Try.results53, go_sem, *]) rfl ⟨rfl, Below.refl _ _⟩
/-- the last m elements of a slice -/
theorem tail_run (gs N cs m : Nat) (hm : m ≤ N) : ∃ (ad : Option Addr) (c' : Nat), (∀ w : World, (Instr.sliceAt 48 (.slice (some ⟨gs, 0, none⟩) N cs) (some (.int .i64 ((N : Int) - (m : Int)))) none none).run Try.prog w = .ok (.slice ad m c') w) ∧ (m = 0 ∨ cs < N ∨ ad = some ⟨gs, N - m, none⟩) := by
  refine ⟨if cs = N - m then some ⟨gs, 0, none⟩ else some ⟨gs, N - m, none⟩, cs - (N - m), fun w => ?_, ?_⟩
  · have ht : Try.prog.underlying 48 = some (.slice (Try.prog.elem 48)) := by kernel_rfl
    rw [run_sliceAt_slice (P := Try.prog) (t := 48) (h := ht), run_slice_l (P := Try.prog) (t := 48) (ht := ht) (h0 := by omega) (h1 := by omega)]
    have e1 : ((N : Int) - (m : Int)).toNat = N - m := by omega
    rw [e1]
    have e2 : (sizeOf (Try.prog.elem 48)).run Try.prog w = .ok 1 w := by kernel_rfl
    rw [e2]
    have e3 : N - (N - m) = m := by omega
    simp only [Result.andThen_ok, sliced, e3, Nat.mul_one]
    by_cases c : cs = N - m
    · rw [if_pos c, if_pos c]
    · rw [if_neg c, if_neg c]
      simp [Addr.add]
      omega
  · by_cases c : cs = N - m
    · by_cases z : m = 0
      · exact Or.inl z
      · exact Or.inr (Or.inl (by omega))
    · rw [if_neg c]; exact Or.inr (Or.inr rfl)
theorem equal_tail (va : Value) (ad : Option Addr) (c' gs base1 base2 cs N m : Nat) (ys ws : List Int) (w : World) (h1 : w.ownsRow base1 3 1 va ws.length (ws.map (Value.int .i64))) (h2 : w.ownsRow base2 3 1 (.slice (some ⟨gs, 0, none⟩) N cs) N (ys.map (Value.int .i64)))
    (hw : ws = ys.drop (N - m)) (hm : m ≤ N) (hy : ys.length = N) (had : m = 0 ∨ cs < N ∨ ad = some ⟨gs, N - m, none⟩) (hn : N ≤ 5000) :
    Calls Try.prog 52 #[va, .slice ad m c'] w fun e w' => e = .returned (.bool true) ∧ Below w.heap.size w w' := by
  have hl : ws.length = m := by rw [hw, List.length_drop, hy]; omega
  have gz := h2.lt gs rfl
  have cap : N ≤ cs := by
    rcases h2.2 with ⟨e, _⟩ | ⟨g, cap, cur, e, _, _, q, _⟩
    · cases e
    · cases e; exact q
  by_cases z : m = 0
  · obtain ⟨a1, c1, rfl⟩ := owns_slice h1
    rw [hl]
    subst z
    exact equalI_none a1 ad c1 c' w
  · have e : ad = some ⟨gs, N - m, none⟩ := by
      rcases had with h | h | h
      · exact absurd h z
      · omega
      · exact h
    obtain ⟨a1, c1, rfl⟩ := owns_slice h1
    obtain ⟨ga, rfl⟩ := owns_addr h1 (by omega)
    rw [e]
    have r := equalC ga 0 gs (N - m) c1 c' ws w (fun j x hx => by
      have hj : j < ws.length := (List.getElem?_eq_some_iff.1 hx).1
      rw [Nat.zero_add, h1.cellAt j (by omega)]; simp [hx]) (fun j x hx => by
      have hj : j < ws.length := (List.getElem?_eq_some_iff.1 hx).1
      rw [h2.cellAt (N - m + j) (by omega)]
      rw [hw, List.getElem?_drop] at hx
      simp [hx]) (h1.lt ga rfl).2 gz.2 (by omega)
    rw [hl] at r ⊢
    exact r
end Go.Proofs.Ytdifilndpilboaa
