/-
  The contracts of the small functions of package span: what each call returns, and that no block that was there before has changed.
-/
import Derived.Test.YtdifilndpilboaaRows
import Derived.WalkKit
import Derived.WalkSpells
import Derived.WalkLawsBesides
import Derived.BigQuiet
import Derived.Deep.QuietTactic
import Derived.Deep.RegionHeld3
import Derived.Deep.DeepCutAuto
import Derived.Deep.DrawnRows
import Derived.Deep.DeepFit
import Derived.Lib.Hide
namespace Go.Proofs.Ytdifilndpilboaa
open Go.RowKit

/-- the absolute value -/
def magA (n : Int) : Int := if n < 0 then -n else n
theorem magA_nonneg (n : Int) : 0 ≤ magA n := by unfold magA; split <;> omega
theorem magA_neg {n : Int} (h : n < 0) : magA n = -n := by unfold magA; rw [if_pos h]
theorem magA_pos {n : Int} (h : 0 ≤ n) : magA n = n := by unfold magA; rw [if_neg (by omega)]
/-- the ends and the stride of the normal range -/
def nL (l h : Int) : Int := if h < l then 1 else l
def nH (l h : Int) : Int := if h < l then 0 else h
def nS (l h st : Int) (dn : Bool) : Int := if h < l then 1 else if l = h then 1 else if dn then -st else st

theorem u64_neg (n : Int) (h1 : -9223372036854775808 ≤ n) (h2 : n < 0) : IntKind.u64.wrap (-IntKind.u64.wrap n) = -n := by
  rw [IntKind.wrap_u64, IntKind.wrap_u64]; omega

theorem limited_yes (n : Int) (w : World) (h1 : -1000000 ≤ n) (h2 : n ≤ 1000000) :
    Calls Try.prog 94 #[.int .i64 n] w fun e w' => e = .returned (.bool true) ∧ w = w' := by
  go_enter Try.func94, Try.ntmps94
  go_wp2
  go_ret
  exact ⟨rfl, rfl⟩

theorem limited_no (n : Int) (w : World) (h : ¬ (-1000000 ≤ n ∧ n ≤ 1000000)) :
    Calls Try.prog 94 #[.int .i64 n] w fun e w' => e = .returned (.bool false) ∧ w = w' := by
  by_cases h1 : -1000000 ≤ n
  · have h2 : ¬ n ≤ 1000000 := fun h2 => h ⟨h1, h2⟩
    clear h
    go_enter Try.func94, Try.ntmps94
    go_wp2
    go_ret
    exact ⟨rfl, rfl⟩
  · clear h
    go_enter Try.func94, Try.ntmps94
    go_wp2
    go_ret
    exact ⟨rfl, rfl⟩

theorem magnitude_any (n : Int) (w : World) (hl : -9223372036854775808 ≤ n) (hh : n ≤ 9223372036854775807) :
    Calls Try.prog 95 #[.int .i64 n] w fun e w' => e = .returned (.int .u64 (magA n)) ∧ w = w' := by
  by_cases h1 : n < 0
  · go_enter Try.func95, Try.ntmps95
    go_wp2
    go_ret
    exact ⟨by rw [magA_neg h1, ← u64_neg n hl h1]; rfl, rfl⟩
  · have h2 : 0 ≤ n := by omega
    go_enter Try.func95, Try.ntmps95
    go_wp2
    go_ret
    exact ⟨by rw [magA_pos h2]; rfl, rfl⟩

theorem nothing_any (w : World) :
    Calls Try.prog 104 #[] w fun e w' => e = .returned (.agg #[.int .i64 1, .int .i64 0, .int .i64 1, .bool false]) ∧ w.alloc (.cells #[.int .i64 1, .int .i64 0, .int .i64 1, .bool false] 95) = w' := by
  go_enter Try.func104, Try.ntmps104
  go_wp2
  exact bodyPost_ret (v := .agg #[.int .i64 1, .int .i64 0, .int .i64 1, .bool false]) (by simp [results, Try.results104, go_sem]) rfl ⟨rfl, rfl⟩

/-- a struct of three ints -/
theorem agg3_eq {a b c a' b' c' : Int} (h1 : a = a') (h2 : b = b') (h3 : c = c') : Ending.returned (.agg #[.int .i64 a, .int .i64 b, .int .i64 c]) = .returned (.agg #[.int .i64 a', .int .i64 b', .int .i64 c']) := by rw [h1, h2, h3]

set_option maxHeartbeats 400000 in
theorem normal_any (l h st : Int) (dn : Bool) (w : World) (h1 : -4000000000000 ≤ st) (h2 : st ≤ 4000000000000) :
    Calls Try.prog 96 #[.agg #[.int .i64 l, .int .i64 h, .int .i64 st, .bool dn]] w fun e w' => e = .returned (.agg #[.int .i64 (nL l h), .int .i64 (nH l h), .int .i64 (nS l h st dn)]) ∧ Below w.heap.size w w' := by
  by_cases c1 : h < l
  · have E := Lib.hid (show nL l h = 1 ∧ nH l h = 0 ∧ nS l h st dn = 1 from ⟨if_pos c1, if_pos c1, if_pos c1⟩)
    go_enter Try.func96, Try.ntmps96
    go_wp2_with (go_at_call 104; refine (nothing_any _).mono ?_; rintro e w' ⟨rfl, rfl⟩)
    refine bodyPost_ret (v := .agg #[.int .i64 1, .int .i64 0, .int .i64 1]) (by simp [results, Try.results96, go_sem]) rfl ⟨agg3_eq E.out.1.symm E.out.2.1.symm E.out.2.2.symm, ?_⟩
    repeat (first | exact Below.refl _ _ | refine Below.alloc ?_ (by simp; try omega) _ | refine Below.setCell ?_ (by simp; try omega) _)
  · by_cases c2 : l = h
    · subst c2
      have E := Lib.hid (show nL l l = l ∧ nH l l = l ∧ nS l l st dn = 1 from ⟨if_neg c1, if_neg c1, by unfold nS; rw [if_neg c1, if_pos rfl]⟩)
      go_enter Try.func96, Try.ntmps96
      go_wp2
      refine bodyPost_ret (v := .agg #[.int .i64 l, .int .i64 l, .int .i64 1]) (by simp [results, Try.results96, go_sem]) rfl ⟨agg3_eq E.out.1.symm E.out.2.1.symm E.out.2.2.symm, ?_⟩
      repeat (first | exact Below.refl _ _ | refine Below.alloc ?_ (by simp; try omega) _ | refine Below.setCell ?_ (by simp; try omega) _)
    · cases dn
      · have E := Lib.hid (show nL l h = l ∧ nH l h = h ∧ nS l h st false = st from ⟨if_neg c1, if_neg c1, by unfold nS; rw [if_neg c1, if_neg c2]; rfl⟩)
        go_enter Try.func96, Try.ntmps96
        go_wp2
        refine bodyPost_ret (v := .agg #[.int .i64 l, .int .i64 h, .int .i64 st]) (by simp [results, Try.results96, go_sem]) rfl ⟨agg3_eq E.out.1.symm E.out.2.1.symm E.out.2.2.symm, ?_⟩
        repeat (first | exact Below.refl _ _ | refine Below.alloc ?_ (by simp; try omega) _ | refine Below.setCell ?_ (by simp; try omega) _)
      · have E := Lib.hid (show nL l h = l ∧ nH l h = h ∧ nS l h st true = -st from ⟨if_neg c1, if_neg c1, by unfold nS; rw [if_neg c1, if_neg c2]; rfl⟩)
        go_enter Try.func96, Try.ntmps96
        go_wp2
        refine bodyPost_ret (v := .agg #[.int .i64 l, .int .i64 h, .int .i64 (-st)]) (by simp [results, Try.results96, go_sem]) rfl ⟨agg3_eq E.out.1.symm E.out.2.1.symm E.out.2.2.symm, ?_⟩
        repeat (first | exact Below.refl _ _ | refine Below.alloc ?_ (by simp; try omega) _ | refine Below.setCell ?_ (by simp; try omega) _)

set_option maxHeartbeats 400000 in
theorem size_any (l h st : Int) (dn : Bool) (w : World) (h0 : 1 ≤ st) (h1 : l ≤ h) (h2 : -4000000 ≤ l) (h3 : h ≤ 4000000) :
    Calls Try.prog 101 #[.agg #[.int .i64 l, .int .i64 h, .int .i64 st, .bool dn]] w fun e w' => e = .returned (.int .i64 ((h - l) / st + 1)) ∧ Below w.heap.size w w' := by
  have hd := IntWalk.tdiv_le (h - l) st (by omega) h0
  go_enter Try.func101, Try.ntmps101
  go_wp2
  go_ret
  refine ⟨rfl, ?_⟩
  repeat (first | exact Below.refl _ _ | refine Below.alloc ?_ (by simp; try omega) _ | refine Below.setCell ?_ (by simp; try omega) _)

set_option maxHeartbeats 400000 in
theorem size_empty (w : World) :
    Calls Try.prog 101 #[.agg #[.int .i64 1, .int .i64 0, .int .i64 1, .bool false]] w fun e w' => e = .returned (.int .i64 0) ∧ Below w.heap.size w w' := by
  go_enter Try.func101, Try.ntmps101
  go_wp2
  go_ret
  refine ⟨rfl, ?_⟩
  repeat (first | exact Below.refl _ _ | refine Below.alloc ?_ (by simp; try omega) _ | refine Below.setCell ?_ (by simp; try omega) _)

set_option maxHeartbeats 400000 in
theorem nth_up (l h st k : Int) (w : World) (h0 : -8000000 ≤ k * st) (h1 : k * st ≤ 8000000) (h2 : -4000000 ≤ l) (h3 : l ≤ 4000000) :
    Calls Try.prog 102 #[.agg #[.int .i64 l, .int .i64 h, .int .i64 st, .bool false], .int .i64 k] w fun e w' => e = .returned (.int .i64 (l + k * st)) ∧ Below w.heap.size w w' := by
  go_enter Try.func102, Try.ntmps102
  go_wp2
  go_ret
  refine ⟨rfl, ?_⟩
  repeat (first | exact Below.refl _ _ | refine Below.alloc ?_ (by simp; try omega) _ | refine Below.setCell ?_ (by simp; try omega) _)

set_option maxHeartbeats 400000 in
theorem nth_down (l h st k : Int) (w : World) (h0 : -8000000 ≤ k * st) (h1 : k * st ≤ 8000000) (h2 : -4000000 ≤ h) (h3 : h ≤ 4000000) :
    Calls Try.prog 102 #[.agg #[.int .i64 l, .int .i64 h, .int .i64 st, .bool true], .int .i64 k] w fun e w' => e = .returned (.int .i64 (h - k * st)) ∧ Below w.heap.size w w' := by
  go_enter Try.func102, Try.ntmps102
  go_wp2
  go_ret
  refine ⟨rfl, ?_⟩
  repeat (first | exact Below.refl _ _ | refine Below.alloc ?_ (by simp; try omega) _ | refine Below.setCell ?_ (by simp; try omega) _)

set_option maxHeartbeats 400000 in
theorem open_any (l h s : Int) (w : World) (h0 : -4000000 ≤ s) (h1 : s ≤ 4000000) :
    Calls Try.prog 100 #[.agg #[.int .i64 l, .int .i64 h, .int .i64 s]] w fun e w' => e = .returned (.agg #[.int .i64 l, .int .i64 h, .int .i64 (magA s), .bool (decide (s < 0))]) ∧ Below w.heap.size w w' := by
  have hm0 := magA_nonneg s
  have hm1 : magA s ≤ 4000000 := by unfold magA; split <;> omega
  have hw : IntKind.i64.wrap (magA s) = magA s := IntWalk.i64_in _ (by omega)
  go_enter Try.func100, Try.ntmps100
  go_wp2_with fail
  go_region_held3 (fun w' => w'.cell? ⟨w.heap.size, 0, none⟩ = some (.int .i64 l) ∧ w'.cell? ⟨w.heap.size, 1, none⟩ = some (.int .i64 h) ∧ w'.cell? ⟨w.heap.size, 2, none⟩ = some (.int .i64 s)) (go_keep) (first | (go_at_call 95; refine (magnitude_any _ _ (by omega) (by omega)).mono ?_; rintro e w' ⟨rfl, rfl⟩))
  clear hw
  go_wp2
  refine bodyPost_ret (v := .agg #[.int .i64 l, .int .i64 h, .int .i64 (magA s), .bool (decide (s < 0))]) (by simp [results, Try.results100, go_sem]) rfl ⟨rfl, ?_⟩
  repeat (first | exact Below.refl _ _ | refine Below.alloc ?_ (by simp; try omega) _ | refine Below.setCell ?_ (by simp; try omega) _ | refine Below.drew ?_)

end Go.Proofs.Ytdifilndpilboaa
