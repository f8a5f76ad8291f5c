/-
  The contracts of span.clamp and of the closures of Translate, Expand, Interior and Exterior.
-/
import Derived.Test.YtdifilndpilboaaSpanH
import Derived.WalkKit
import Derived.WalkSpells
import Derived.WalkLawsBesides
import Derived.BigQuiet
import Derived.BigRegion
import Derived.Deep.QuietTactic
import Derived.Deep.RegionHeld3
import Derived.Deep.DrawnRows
import Derived.Lib.Hide
namespace Go.Proofs.Ytdifilndpilboaa
open Go.RowKit

theorem clamp_lo (n : Int) (w : World) (h : n < -2000001) :
    Calls Try.prog 110 #[.int .i64 n] w fun e w' => e = .returned (.int .i64 (-2000001)) ∧ w = w' := by
  have h2 : ¬ 2000001 < n := by omega
  have h3 : ¬ -2000001 < n := by omega
  go_enter Try.func110, Try.ntmps110
  go_wp2
  go_ret
  exact ⟨rfl, rfl⟩
theorem clamp_hi (n : Int) (w : World) (h : 2000001 < n) :
    Calls Try.prog 110 #[.int .i64 n] w fun e w' => e = .returned (.int .i64 2000001) ∧ w = w' := by
  go_enter Try.func110, Try.ntmps110
  go_wp2
  go_ret
  exact ⟨rfl, rfl⟩
theorem clamp_in (n : Int) (w : World) (h1 : -2000001 ≤ n) (h2 : n ≤ 2000001) :
    Calls Try.prog 110 #[.int .i64 n] w fun e w' => e = .returned (.int .i64 n) ∧ w = w' := by
  have h3 : ¬ 2000001 < n := by omega
  by_cases h4 : n = -2000001
  · subst h4
    go_enter Try.func110, Try.ntmps110
    go_wp2
    go_ret
    exact ⟨rfl, rfl⟩
  · have h5 : -2000001 < n := by omega
    go_enter Try.func110, Try.ntmps110
    go_wp2
    go_ret
    exact ⟨rfl, rfl⟩

def clampI (n : Int) : Int := if n < -2000001 then -2000001 else if 2000001 < n then 2000001 else n
theorem clamp_any (n : Int) (w : World) :
    Calls Try.prog 110 #[.int .i64 n] w fun e w' => e = .returned (.int .i64 (clampI n)) ∧ w = w' := by
  unfold clampI
  split
  · exact clamp_lo n w ‹_›
  · split
    · exact clamp_hi n w ‹_›
    · exact clamp_in n w (by omega) (by omega)
theorem clampI_bd (n : Int) : -2000001 ≤ clampI n ∧ clampI n ≤ 2000001 := by unfold clampI; split; omega; split <;> omega

set_option maxHeartbeats 800000 in
theorem trClo (l h m n : Int) (dn : Bool) (b o : Nat) (w : World) (hc : w.cell? ⟨b, o, none⟩ = some (.int .i64 n)) (h0 : -1000000 ≤ l) (h1 : l ≤ 1000000) (h2 : -1000000 ≤ h) (h3 : h ≤ 1000000) (n1 : -2000001 ≤ n) (n2 : n ≤ 2000001)  :
    Calls Try.prog 111 #[.agg #[.int .i64 l, .int .i64 h, .int .i64 m, .bool dn], .pointer (some ⟨b, o, none⟩)] w fun e w' => e = .returned (.agg #[.int .i64 (l + n), .int .i64 (h + n), .int .i64 m, .bool dn]) ∧ Below w.heap.size w w' := by
  have hb : b < w.heap.size := World.block_lt_of_cell? w _ hc
  have hne : b ≠ w.heap.size := by omega
  have hne1 : b ≠ w.heap.size + 1 := by omega
  go_enter Try.func111, Try.ntmps111
  go_wp2
  refine bodyPost_ret (v := .agg #[.int .i64 (l + n), .int .i64 (h + n), .int .i64 m, .bool dn]) (by simp [results, Try.results111, go_sem, *]) rfl ⟨rfl, ?_⟩
  repeat (first | exact Below.refl _ _ | refine Below.alloc ?_ (by simp; try omega) _ | refine Below.setCell ?_ (by simp; try omega) _ | refine Below.drew ?_ | refine below_drewN ?_ _)

set_option maxHeartbeats 800000 in
theorem exClo (l h m n : Int) (dn : Bool) (b o : Nat) (w : World) (hc : w.cell? ⟨b, o, none⟩ = some (.int .i64 n)) (hn1 : -5000000000000 ≤ n * m) (hn2 : n * m ≤ 5000000000000) (h0 : -1000000 ≤ l) (h1 : l ≤ 1000000) (h2 : -1000000 ≤ h) (h3 : h ≤ 1000000) (_m0 : 0 ≤ m) (_m1 : m ≤ 2000000) (_n1 : -2000001 ≤ n) (_n2 : n ≤ 2000001)  :
    Calls Try.prog 114 #[.agg #[.int .i64 l, .int .i64 h, .int .i64 m, .bool dn], .pointer (some ⟨b, o, none⟩)] w fun e w' => e = .returned (.agg #[.int .i64 (l - n * m), .int .i64 (h + n * m), .int .i64 m, .bool dn]) ∧ Below w.heap.size w w' := by
  have hb : b < w.heap.size := World.block_lt_of_cell? w _ hc
  have hne : b ≠ w.heap.size := by omega
  have hne1 : b ≠ w.heap.size + 1 := by omega
  go_enter Try.func114, Try.ntmps114
  go_wp2
  refine bodyPost_ret (v := .agg #[.int .i64 (l - n * m), .int .i64 (h + n * m), .int .i64 m, .bool dn]) (by simp [results, Try.results114, go_sem, *]) rfl ⟨rfl, ?_⟩
  repeat (first | exact Below.refl _ _ | refine Below.alloc ?_ (by simp; try omega) _ | refine Below.setCell ?_ (by simp; try omega) _ | refine Below.drew ?_ | refine below_drewN ?_ _)

set_option maxHeartbeats 800000 in
theorem inCloN (l h m n : Int) (dn : Bool) (b o : Nat) (w : World) (hc : w.cell? ⟨b, o, none⟩ = some (.int .i64 n)) (h0 : -1000000 ≤ l) (h1 : l ≤ 1000000) (_h2 : -1000000 ≤ h) (_h3 : h ≤ 1000000) (n1 : -2000001 ≤ n) (n2 : n ≤ 2000001) (hn : n < 0) (p1 : -5000000000000 ≤ (-n - 1) * m) (p2 : (-n - 1) * m ≤ 5000000000000) :
    Calls Try.prog 115 #[.agg #[.int .i64 l, .int .i64 h, .int .i64 m, .bool dn], .pointer (some ⟨b, o, none⟩)] w fun e w' => e = .returned (.agg #[.int .i64 (l), .int .i64 (l + (-n - 1) * m), .int .i64 m, .bool dn]) ∧ Below w.heap.size w w' := by
  have hb : b < w.heap.size := World.block_lt_of_cell? w _ hc
  have hne : b ≠ w.heap.size := by omega
  have hne1 : b ≠ w.heap.size + 1 := by omega
  go_enter Try.func115, Try.ntmps115
  go_wp2
  refine bodyPost_ret (v := .agg #[.int .i64 (l), .int .i64 (l + (-n - 1) * m), .int .i64 m, .bool dn]) (by simp [results, Try.results115, go_sem, *]) rfl ⟨rfl, ?_⟩
  repeat (first | exact Below.refl _ _ | refine Below.alloc ?_ (by simp; try omega) _ | refine Below.setCell ?_ (by simp; try omega) _ | refine Below.drew ?_ | refine below_drewN ?_ _)

set_option maxHeartbeats 800000 in
theorem inCloP (l h m n : Int) (dn : Bool) (b o : Nat) (w : World) (hc : w.cell? ⟨b, o, none⟩ = some (.int .i64 n)) (_h0 : -1000000 ≤ l) (_h1 : l ≤ 1000000) (h2 : -1000000 ≤ h) (h3 : h ≤ 1000000) (n1 : -2000001 ≤ n) (n2 : n ≤ 2000001) (hn : ¬ n < 0) (p1 : -5000000000000 ≤ (n - 1) * m) (p2 : (n - 1) * m ≤ 5000000000000) :
    Calls Try.prog 115 #[.agg #[.int .i64 l, .int .i64 h, .int .i64 m, .bool dn], .pointer (some ⟨b, o, none⟩)] w fun e w' => e = .returned (.agg #[.int .i64 (h - (n - 1) * m), .int .i64 (h), .int .i64 m, .bool dn]) ∧ Below w.heap.size w w' := by
  have hb : b < w.heap.size := World.block_lt_of_cell? w _ hc
  have hne : b ≠ w.heap.size := by omega
  have hne1 : b ≠ w.heap.size + 1 := by omega
  go_enter Try.func115, Try.ntmps115
  go_wp2
  refine bodyPost_ret (v := .agg #[.int .i64 (h - (n - 1) * m), .int .i64 (h), .int .i64 m, .bool dn]) (by simp [results, Try.results115, go_sem, *]) rfl ⟨rfl, ?_⟩
  repeat (first | exact Below.refl _ _ | refine Below.alloc ?_ (by simp; try omega) _ | refine Below.setCell ?_ (by simp; try omega) _ | refine Below.drew ?_ | refine below_drewN ?_ _)

set_option maxHeartbeats 800000 in
theorem xtCloN (l h m n : Int) (dn : Bool) (b o : Nat) (w : World) (hc : w.cell? ⟨b, o, none⟩ = some (.int .i64 n)) (hn1 : -5000000000000 ≤ n * m) (hn2 : n * m ≤ 5000000000000) (h0 : -1000000 ≤ l) (h1 : l ≤ 1000000) (_h2 : -1000000 ≤ h) (_h3 : h ≤ 1000000) (m0 : 0 ≤ m) (m1 : m ≤ 2000000) (_n1 : -2000001 ≤ n) (_n2 : n ≤ 2000001) (hn : n < 0) :
    Calls Try.prog 116 #[.agg #[.int .i64 l, .int .i64 h, .int .i64 m, .bool dn], .pointer (some ⟨b, o, none⟩)] w fun e w' => e = .returned (.agg #[.int .i64 (l + n * m), .int .i64 (l - m), .int .i64 m, .bool dn]) ∧ Below w.heap.size w w' := by
  have hb : b < w.heap.size := World.block_lt_of_cell? w _ hc
  have hne : b ≠ w.heap.size := by omega
  have hne1 : b ≠ w.heap.size + 1 := by omega
  go_enter Try.func116, Try.ntmps116
  go_wp2
  refine bodyPost_ret (v := .agg #[.int .i64 (l + n * m), .int .i64 (l - m), .int .i64 m, .bool dn]) (by simp [results, Try.results116, go_sem, *]) rfl ⟨rfl, ?_⟩
  repeat (first | exact Below.refl _ _ | refine Below.alloc ?_ (by simp; try omega) _ | refine Below.setCell ?_ (by simp; try omega) _ | refine Below.drew ?_ | refine below_drewN ?_ _)

set_option maxHeartbeats 800000 in
theorem xtCloP (l h m n : Int) (dn : Bool) (b o : Nat) (w : World) (hc : w.cell? ⟨b, o, none⟩ = some (.int .i64 n)) (hn1 : -5000000000000 ≤ n * m) (hn2 : n * m ≤ 5000000000000) (_h0 : -1000000 ≤ l) (_h1 : l ≤ 1000000) (h2 : -1000000 ≤ h) (h3 : h ≤ 1000000) (m0 : 0 ≤ m) (m1 : m ≤ 2000000) (_n1 : -2000001 ≤ n) (_n2 : n ≤ 2000001) (hn : ¬ n < 0) :
    Calls Try.prog 116 #[.agg #[.int .i64 l, .int .i64 h, .int .i64 m, .bool dn], .pointer (some ⟨b, o, none⟩)] w fun e w' => e = .returned (.agg #[.int .i64 (h + m), .int .i64 (h + n * m), .int .i64 m, .bool dn]) ∧ Below w.heap.size w w' := by
  have hb : b < w.heap.size := World.block_lt_of_cell? w _ hc
  have hne : b ≠ w.heap.size := by omega
  have hne1 : b ≠ w.heap.size + 1 := by omega
  have k1 : IntKind.i64.wrap (h + m) = h + m := IntWalk.i64_in _ (by omega)
  have k2 : IntKind.i64.wrap (n * m) = n * m := IntWalk.i64_in _ (by omega)
  have k3 : IntKind.i64.wrap (h + n * m) = h + n * m := IntWalk.i64_in _ (by omega)
  go_enter Try.func116, Try.ntmps116
  go_wp2_with fail
  go_region
  all_goals
    go_wp2
    refine bodyPost_ret (v := .agg #[.int .i64 (h + m), .int .i64 (h + n * m), .int .i64 m, .bool dn]) (by simp [results, Try.results116, go_sem, *]) rfl ⟨rfl, ?_⟩
    repeat (first | exact Below.refl _ _ | refine Below.alloc ?_ (by simp; try omega) _ | refine Below.setCell ?_ (by simp; try omega) _ | refine Below.drew ?_ | refine below_drewN ?_ _)

end Go.Proofs.Ytdifilndpilboaa
