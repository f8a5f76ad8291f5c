/-
  Part 1: Kit, SpanA, SpanB, SpanC, SpanD, SpanE, RefA, RefB, RefC, RefD, RefE, SpanF.
-/
import Derived.Below
import Derived.BigQuiet
import Derived.Carry
import Derived.ChangeSame
import Derived.Deep.DeepCutAuto
import Derived.Deep.DeepFit
import Derived.Deep.DrawnRows
import Derived.Deep.QuietTactic
import Derived.Deep.RegionHeld3
import Derived.Deep.RegionWith
import Derived.Lib.Hide
import Derived.Lib.SmallJoins
import Derived.OpenShut
import Derived.ProofKit
import Derived.Test.YtmelknodmbdhpaaRows
import Derived.WalkKit
import Derived.WalkLawsBesides
import Derived.WalkSpells
namespace Go.Proofs.Ytmelknodmbdhpaa
open Go.ChangeShapes Go.WideShapes Go.ChangeAt Go.RowKit Go.Joins
theorem Try.own : ownKnob Try.prog.godebug = none := by kernel_rfl
theorem Try.cellsRange : Try.prog.cellsOf 23 = 3 := by kernel_rfl
section
variable {H : Type} {enc : TypeId × Value → H} {P : Program}
theorem post_of_below {f : Func} {s : ChangeSpec} {apart fresh handsOn again : Bool} {W W' : World} {args : Array Value} {v : Value} {ds gs : List (DataW H)} {before pa pv : List MemPlace}
    (hW : DataW.Whole enc P f.params.toList s.vars apart W args.toList ds gs before)
    (hres : ∀ (b : Nat) (sp : Nat → Bool) (hd : Bool), DataW.TrodAll enc P W' b sp hd f.resultTypes.toList (v.resultList f.resultTypes.size) (s.fn H (ds ++ gs)).results [])
    (hargs : ∀ sp : Nat → Bool, (∀ p ∈ before, sp p.block = true) → DataW.TrodAll enc P W' 0 sp true f.params.toList args.toList (s.fn H (ds ++ gs)).args pa)
    (hvars : ∀ sp : Nat → Bool, (∀ p ∈ before, sp p.block = true) → DataW.TrodVars enc P W' sp s.vars (s.fn H (ds ++ gs)).vars pv)
    (hps : before = pa ++ pv) (hb : Below W.heap.size W W')
    (hok : ∀ (j : Nat) (t : TypeId) (r : Value), f.resultTypes[j]? = some t → (v.resultList f.resultTypes.size)[j]? = some r → Value.okWide P W' .any 0 t r) :
    s.post enc P f apart fresh handsOn again W args v W' := by
  have hlt : ∀ p ∈ before, p.block < W.heap.size := fun p hp => hW.lt p hp
  have hold : ∀ p ∈ before, (fun b => decide (b < W.heap.size)) p.block = true := fun p hp => by simpa using hlt p hp
  refine ⟨ds, gs, before, [], pa, pv, hW, hres _ _ _, hargs _ hold, hvars _ hold, World.keptBut_mono (fun p hp => ⟨hp, ?_⟩) (hb.frame (· ∈ before)), fun _ => ?_⟩
  · rw [hps, List.mem_append] at hp
    exact Or.inr hp
  · obtain ⟨_, _, _, _, _, hz, hn⟩ := hW
    refine ⟨hok, _, _, ([] ++ pa) ++ pv, ⟨[] ++ pa, pv, trodAll_append (hargs _ (fun _ _ => rfl)) (hres _ _ _), hvars _ (fun _ _ => rfl), rfl, ?_, ?_⟩, ?_⟩
    · intro b off hp
      have hin : MemPlace.cell b off ∈ before := by rw [hps]; simpa using hp
      rw [hb.frozen (hlt _ hin)]
      exact hz b off hin
    · intro ha
      have := hn ha
      rw [hps] at this
      simpa using this
    · intro p hp _
      rw [hps]
      simpa using hp
end
theorem wf64 {n : Int} (h : (Lit.int .i64 n).wf = true) : -9223372036854775808 ≤ n ∧ n ≤ 9223372036854775807 := by
  have hmin : IntKind.i64.min = -9223372036854775808 := rfl
  have hmax : IntKind.i64.max = 9223372036854775807 := rfl
  simp only [Lit.wf, Bool.and_eq_true, decide_eq_true_eq] at h
  omega
section
variable {H : Type} {enc : TypeId × Value → H} {w : World} {base : Nat} {spare : Nat → Bool} {held : Bool}
end
end Go.Proofs.Ytmelknodmbdhpaa
namespace Go.Proofs.Ytmelknodmbdhpaa
open Go.RowKit
/-- the absolute value -/
def magA (n : Int) : Int := if n < 0 then -n else n
theorem magA_nonneg (n : Int) : 0 ≤ magA n := by unfold magA; split <;> omega
theorem magA_neg {n : Int} (h : n < 0) : magA n = -n := by unfold magA; rw [if_pos h]
theorem magA_pos {n : Int} (h : 0 ≤ n) : magA n = n := by unfold magA; rw [if_neg (by omega)]
/-- the ends and the stride of the normal range -/
def nL (l h : Int) : Int := if h < l then 1 else l
def nH (l h : Int) : Int := if h < l then 0 else h
def nS (l h st : Int) (dn : Bool) : Int := if h < l then 1 else if l = h then 1 else if dn then -st else st
theorem u64_neg (n : Int) (h1 : -9223372036854775808 ≤ n) (h2 : n < 0) : IntKind.u64.wrap (-IntKind.u64.wrap n) = -n := by
  rw [IntKind.wrap_u64, IntKind.wrap_u64]; omega
theorem limited_yes (n : Int) (w : World) (h1 : -1000000 ≤ n) (h2 : n ≤ 1000000) :
    Calls Try.prog 103 #[.int .i64 n] w fun e w' => e = .returned (.bool true) ∧ w = w' := by
  go_enter Try.func103, Try.ntmps103
  go_wp2
  go_ret
  exact ⟨rfl, rfl⟩
theorem magnitude_any (n : Int) (w : World) (hl : -9223372036854775808 ≤ n) (hh : n ≤ 9223372036854775807) :
    Calls Try.prog 104 #[.int .i64 n] w fun e w' => e = .returned (.int .u64 (magA n)) ∧ w = w' := by
  by_cases h1 : n < 0
  · go_enter Try.func104, Try.ntmps104
    go_wp2
    go_ret
    exact ⟨by rw [magA_neg h1, ← u64_neg n hl h1]; rfl, rfl⟩
  · have h2 : 0 ≤ n := by omega
    go_enter Try.func104, Try.ntmps104
    go_wp2
    go_ret
    exact ⟨by rw [magA_pos h2]; rfl, rfl⟩
theorem nothing_any (w : World) :
    Calls Try.prog 113 #[] w fun e w' => e = .returned (.agg #[.int .i64 1, .int .i64 0, .int .i64 1, .bool false]) ∧ w.alloc (.cells #[.int .i64 1, .int .i64 0, .int .i64 1, .bool false] 102) = w' := by
  go_enter Try.func113, Try.ntmps113
  go_wp2
  exact bodyPost_ret (v := .agg #[.int .i64 1, .int .i64 0, .int .i64 1, .bool false]) (by simp [results, Try.results113, go_sem]) rfl ⟨rfl, rfl⟩
/-- a struct of three ints -/
theorem agg3_eq {a b c a' b' c' : Int} (h1 : a = a') (h2 : b = b') (h3 : c = c') : Ending.returned (.agg #[.int .i64 a, .int .i64 b, .int .i64 c]) = .returned (.agg #[.int .i64 a', .int .i64 b', .int .i64 c']) := by rw [h1, h2, h3]
set_option maxHeartbeats 400000 in
theorem normal_any (l h st : Int) (dn : Bool) (w : World) (h1 : -4000000000000 ≤ st) (h2 : st ≤ 4000000000000) :
    Calls Try.prog 105 #[.agg #[.int .i64 l, .int .i64 h, .int .i64 st, .bool dn]] w fun e w' => e = .returned (.agg #[.int .i64 (nL l h), .int .i64 (nH l h), .int .i64 (nS l h st dn)]) ∧ Below w.heap.size w w' := by
  by_cases c1 : h < l
  · have E := Lib.hid (show nL l h = 1 ∧ nH l h = 0 ∧ nS l h st dn = 1 from ⟨if_pos c1, if_pos c1, if_pos c1⟩)
    go_enter Try.func105, Try.ntmps105
    go_wp2_with (go_at_call 113; refine (nothing_any _).mono ?_; rintro e w' ⟨rfl, rfl⟩)
    refine bodyPost_ret (v := .agg #[.int .i64 1, .int .i64 0, .int .i64 1]) (by simp [results, Try.results105, go_sem]) rfl ⟨agg3_eq E.out.1.symm E.out.2.1.symm E.out.2.2.symm, ?_⟩
    repeat (first | exact Below.refl _ _ | refine Below.alloc ?_ (by simp; try omega) _ | refine Below.setCell ?_ (by simp; try omega) _)
  · by_cases c2 : l = h
    · subst c2
      have E := Lib.hid (show nL l l = l ∧ nH l l = l ∧ nS l l st dn = 1 from ⟨if_neg c1, if_neg c1, by unfold nS; rw [if_neg c1, if_pos rfl]⟩)
      go_enter Try.func105, Try.ntmps105
      go_wp2
      refine bodyPost_ret (v := .agg #[.int .i64 l, .int .i64 l, .int .i64 1]) (by simp [results, Try.results105, go_sem]) rfl ⟨agg3_eq E.out.1.symm E.out.2.1.symm E.out.2.2.symm, ?_⟩
      repeat (first | exact Below.refl _ _ | refine Below.alloc ?_ (by simp; try omega) _ | refine Below.setCell ?_ (by simp; try omega) _)
    · cases dn
      · have E := Lib.hid (show nL l h = l ∧ nH l h = h ∧ nS l h st false = st from ⟨if_neg c1, if_neg c1, by unfold nS; rw [if_neg c1, if_neg c2]; rfl⟩)
        go_enter Try.func105, Try.ntmps105
        go_wp2
        refine bodyPost_ret (v := .agg #[.int .i64 l, .int .i64 h, .int .i64 st]) (by simp [results, Try.results105, go_sem]) rfl ⟨agg3_eq E.out.1.symm E.out.2.1.symm E.out.2.2.symm, ?_⟩
        repeat (first | exact Below.refl _ _ | refine Below.alloc ?_ (by simp; try omega) _ | refine Below.setCell ?_ (by simp; try omega) _)
      · have E := Lib.hid (show nL l h = l ∧ nH l h = h ∧ nS l h st true = -st from ⟨if_neg c1, if_neg c1, by unfold nS; rw [if_neg c1, if_neg c2]; rfl⟩)
        go_enter Try.func105, Try.ntmps105
        go_wp2
        refine bodyPost_ret (v := .agg #[.int .i64 l, .int .i64 h, .int .i64 (-st)]) (by simp [results, Try.results105, go_sem]) rfl ⟨agg3_eq E.out.1.symm E.out.2.1.symm E.out.2.2.symm, ?_⟩
        repeat (first | exact Below.refl _ _ | refine Below.alloc ?_ (by simp; try omega) _ | refine Below.setCell ?_ (by simp; try omega) _)
set_option maxHeartbeats 400000 in
theorem size_any (l h st : Int) (dn : Bool) (w : World) (h0 : 1 ≤ st) (h1 : l ≤ h) (h2 : -4000000 ≤ l) (h3 : h ≤ 4000000) :
    Calls Try.prog 110 #[.agg #[.int .i64 l, .int .i64 h, .int .i64 st, .bool dn]] w fun e w' => e = .returned (.int .i64 ((h - l) / st + 1)) ∧ Below w.heap.size w w' := by
  have hd := IntWalk.tdiv_le (h - l) st (by omega) h0
  go_enter Try.func110, Try.ntmps110
  go_wp2
  go_ret
  refine ⟨rfl, ?_⟩
  repeat (first | exact Below.refl _ _ | refine Below.alloc ?_ (by simp; try omega) _ | refine Below.setCell ?_ (by simp; try omega) _)
set_option maxHeartbeats 400000 in
theorem size_empty (w : World) :
    Calls Try.prog 110 #[.agg #[.int .i64 1, .int .i64 0, .int .i64 1, .bool false]] w fun e w' => e = .returned (.int .i64 0) ∧ Below w.heap.size w w' := by
  go_enter Try.func110, Try.ntmps110
  go_wp2
  go_ret
  refine ⟨rfl, ?_⟩
  repeat (first | exact Below.refl _ _ | refine Below.alloc ?_ (by simp; try omega) _ | refine Below.setCell ?_ (by simp; try omega) _)
set_option maxHeartbeats 400000 in
theorem nth_up (l h st k : Int) (w : World) (h0 : -8000000 ≤ k * st) (h1 : k * st ≤ 8000000) (h2 : -4000000 ≤ l) (h3 : l ≤ 4000000) :
    Calls Try.prog 111 #[.agg #[.int .i64 l, .int .i64 h, .int .i64 st, .bool false], .int .i64 k] w fun e w' => e = .returned (.int .i64 (l + k * st)) ∧ Below w.heap.size w w' := by
  go_enter Try.func111, Try.ntmps111
  go_wp2
  go_ret
  refine ⟨rfl, ?_⟩
  repeat (first | exact Below.refl _ _ | refine Below.alloc ?_ (by simp; try omega) _ | refine Below.setCell ?_ (by simp; try omega) _)
set_option maxHeartbeats 400000 in
theorem nth_down (l h st k : Int) (w : World) (h0 : -8000000 ≤ k * st) (h1 : k * st ≤ 8000000) (h2 : -4000000 ≤ h) (h3 : h ≤ 4000000) :
    Calls Try.prog 111 #[.agg #[.int .i64 l, .int .i64 h, .int .i64 st, .bool true], .int .i64 k] w fun e w' => e = .returned (.int .i64 (h - k * st)) ∧ Below w.heap.size w w' := by
  go_enter Try.func111, Try.ntmps111
  go_wp2
  go_ret
  refine ⟨rfl, ?_⟩
  repeat (first | exact Below.refl _ _ | refine Below.alloc ?_ (by simp; try omega) _ | refine Below.setCell ?_ (by simp; try omega) _)
set_option maxHeartbeats 400000 in
theorem open_any (l h s : Int) (w : World) (h0 : -4000000 ≤ s) (h1 : s ≤ 4000000) :
    Calls Try.prog 109 #[.agg #[.int .i64 l, .int .i64 h, .int .i64 s]] w fun e w' => e = .returned (.agg #[.int .i64 l, .int .i64 h, .int .i64 (magA s), .bool (decide (s < 0))]) ∧ Below w.heap.size w w' := by
  have hm0 := magA_nonneg s
  have hm1 : magA s ≤ 4000000 := by unfold magA; split <;> omega
  have hw : IntKind.i64.wrap (magA s) = magA s := IntWalk.i64_in _ (by omega)
  go_enter Try.func109, Try.ntmps109
  go_wp2_with fail
  go_region_held3 (fun w' => w'.cell? ⟨w.heap.size, 0, none⟩ = some (.int .i64 l) ∧ w'.cell? ⟨w.heap.size, 1, none⟩ = some (.int .i64 h) ∧ w'.cell? ⟨w.heap.size, 2, none⟩ = some (.int .i64 s)) (go_keep) (first | (go_at_call 104; refine (magnitude_any _ _ (by omega) (by omega)).mono ?_; rintro e w' ⟨rfl, rfl⟩))
  clear hw
  go_wp2
  refine bodyPost_ret (v := .agg #[.int .i64 l, .int .i64 h, .int .i64 (magA s), .bool (decide (s < 0))]) (by simp [results, Try.results109, go_sem]) rfl ⟨rfl, ?_⟩
  repeat (first | exact Below.refl _ _ | refine Below.alloc ?_ (by simp; try omega) _ | refine Below.setCell ?_ (by simp; try omega) _ | refine Below.drew ?_)
end Go.Proofs.Ytmelknodmbdhpaa
namespace Go.Proofs.Ytmelknodmbdhpaa
open Go.RowKit Go.Op
theorem formed_div (l h s : Int) (h1 : l < h) (hl : -9223372036854775808 ≤ l) (hh : h ≤ 9223372036854775807) (_hs : s ≠ 0) :
    (IntKind.u64.wrap (IntKind.u64.wrap h - IntKind.u64.wrap l)).tmod (magA s) = (h - l) % s := by
  have e : IntKind.u64.wrap (IntKind.u64.wrap h - IntKind.u64.wrap l) = h - l := by
    rw [IntKind.wrap_u64, IntKind.wrap_u64, IntKind.wrap_u64]; omega
  rw [e, Int.tmod_eq_emod_of_nonneg (by omega)]
  unfold magA
  split
  · rw [Int.emod_neg]
  · rfl
/-- whether a range has the form of a single number, or of two or more -/
def fmd (l h s : Int) : Bool := decide ((l = h ∧ s = 1) ∨ (l < h ∧ s ≠ 0 ∧ (h - l) % s = 0))
set_option maxHeartbeats 400000 in
theorem formed_any (l h s : Int) (w : World) (hl : -9223372036854775808 ≤ l) (hh : h ≤ 9223372036854775807) (_hl2 : l ≤ 9223372036854775807) (hh2 : -9223372036854775808 ≤ h) (hs : -9223372036854775808 ≤ s) (hs2 : s ≤ 9223372036854775807) :
    Calls Try.prog 114 #[.agg #[.int .i64 l, .int .i64 h, .int .i64 s]] w fun e w' => e = .returned (.bool (fmd l h s)) ∧ Below w.heap.size w w' := by
  by_cases c1 : l = h
  · subst c1
    have E := Lib.hid (show fmd l l s = (s == 1) by unfold fmd; by_cases c : s = 1 <;> simp [c])
    go_enter Try.func114, Try.ntmps114
    go_wp2
    go_ret
    refine ⟨by rw [E.out]; rfl, ?_⟩
    repeat (first | exact Below.refl _ _ | refine Below.alloc ?_ (by simp; try omega) _ | refine Below.setCell ?_ (by simp; try omega) _ | refine Below.drew ?_)
  · have c0 : (l == h) = false := by simp [c1]
    by_cases c2 : l < h
    · by_cases c3 : s = 0
      · subst c3
        have E := Lib.hid (show fmd l h 0 = false by unfold fmd; simp [c1])
        have c4 : ((0 : Int) != 0) = false := by simp
        have c5 : decide (l < h) = true := by simp [c2]
        go_enter Try.func114, Try.ntmps114
        go_wp2_with fail
        go_quiet (fail)
        go_wp2
        go_ret
        refine ⟨by rw [E.out]; rfl, ?_⟩
        repeat (first | exact Below.refl _ _ | refine Below.alloc ?_ (by simp; try omega) _ | refine Below.setCell ?_ (by simp; try omega) _ | refine Below.drew ?_ | refine below_drewN ?_ _)
      · have E := Lib.hid (show fmd l h s = ((IntKind.u64.wrap (IntKind.u64.wrap h - IntKind.u64.wrap l)).tmod (magA s) == 0) by
          rw [formed_div l h s c2 hl hh c3]; unfold fmd; by_cases c : (h - l) % s = 0 <;> simp [c, c1, c2, c3])
        have c4 : (s != 0) = true := by simp [c3]
        have c5 : decide (l < h) = true := by simp [c2]
        have hm : ¬ magA s = 0 := by unfold magA; split <;> omega
        have hm' : (magA s == 0) = false := by simp [hm]
        go_enter Try.func114, Try.ntmps114
        go_wp2_with fail
        go_region_held3 (fun w' => w'.cell? ⟨w.heap.size, 0, none⟩ = some (.int .i64 l) ∧ w'.cell? ⟨w.heap.size, 1, none⟩ = some (.int .i64 h) ∧ w'.cell? ⟨w.heap.size, 2, none⟩ = some (.int .i64 s)) (go_keep) (first | (go_at_call 104; refine (magnitude_any _ _ (by omega) (by omega)).mono ?_; rintro e w' ⟨rfl, rfl⟩))
        go_wp2
        go_ret
        refine ⟨by rw [E.out]; rfl, ?_⟩
        repeat (first | exact Below.refl _ _ | refine Below.alloc ?_ (by simp; try omega) _ | refine Below.setCell ?_ (by simp; try omega) _ | refine Below.drew ?_)
    · have c5 : decide (l < h) = false := by simp; omega
      have E := Lib.hid (show fmd l h s = false by unfold fmd; simp [c1, c2])
      go_enter Try.func114, Try.ntmps114
      go_wp2_with fail
      go_quiet (fail)
      go_wp2
      go_ret
      refine ⟨by rw [E.out]; rfl, ?_⟩
      repeat (first | exact Below.refl _ _ | refine Below.alloc ?_ (by simp; try omega) _ | refine Below.setCell ?_ (by simp; try omega) _ | refine Below.drew ?_ | refine below_drewN ?_ _)
theorem bcell {W w1 : World} (hb : Below W.heap.size W w1) : (∀ b o, b < W.heap.size → w1.cell? ⟨b, o, none⟩ = W.cell? ⟨b, o, none⟩) ∧ (∀ b o, b < W.heap.size → w1.frozen? ⟨b, o, none⟩ = W.frozen? ⟨b, o, none⟩) :=
  ⟨fun b o h => hb.cell (p := ⟨b, o, none⟩) h, fun b o h => hb.frozen (p := ⟨b, o, none⟩) h⟩
/-- whether two ranges are equal -/
def reqB (a b c a' b' c' : Int) : Bool := decide (a = a' ∧ b = b' ∧ c = c')
theorem eq_range (a b c a' b' c' : Int) (w : World) : (binOp .eql 23 (.agg #[.int .i64 a, .int .i64 b, .int .i64 c]) (.agg #[.int .i64 a', .int .i64 b', .int .i64 c'])).run Try.prog w = .ok (.bool (reqB a b c a' b' c')) w := by
  unfold reqB
  by_cases h1 : a = a'
  · by_cases h2 : b = b'
    · by_cases h3 : c = c'
      · simp [go_sem, h1, h2, h3]
      · simp [go_sem, h1, h2, h3]
    · simp [go_sem, h1, h2]
  · simp [go_sem, h1]
theorem normal_nothing (w : World) :
    Calls Try.prog 105 #[.agg #[.int .i64 1, .int .i64 0, .int .i64 1, .bool false]] w fun e w' => e = .returned (.agg #[.int .i64 1, .int .i64 0, .int .i64 1]) ∧ Below w.heap.size w w' :=
  normal_any 1 0 1 false w (by omega) (by omega)
/-- the error of a range -/
def chk (l h s : Int) : Int := if reqB l h s 1 0 1 = true then 0 else if fmd l h s = false then 2 else if l < -1000000 ∨ 1000000 < h then 4 else 0
set_option maxHeartbeats 400000 in
theorem check_any (l h s : Int) (w : World) (hl : -9223372036854775808 ≤ l) (hh : h ≤ 9223372036854775807) (hl2 : l ≤ 9223372036854775807) (hh2 : -9223372036854775808 ≤ h) (hs : -9223372036854775808 ≤ s) (hs2 : s ≤ 9223372036854775807) :
    Calls Try.prog 24 #[.agg #[.int .i64 l, .int .i64 h, .int .i64 s]] w fun e w' => e = .returned (.int .i64 (chk l h s)) ∧ Below w.heap.size w w' := by
  have hq := eq_range l h s 1 0 1
  rcases hc : reqB l h s 1 0 1 with _ | _
  · rw [hc] at hq
    have HC := Lib.hid hc
    clear hc
    go_enter Try.func24, Try.ntmps24
    go_wp2_with fail
    go_region_held3 (fun w' => w'.cell? ⟨w.heap.size, 0, none⟩ = some (.int .i64 l) ∧ w'.cell? ⟨w.heap.size, 1, none⟩ = some (.int .i64 h) ∧ w'.cell? ⟨w.heap.size, 2, none⟩ = some (.int .i64 s)) (first | go_keep | (refine ⟨?_, ?_, ?_⟩ <;> (rw [hc1 _ _ (by simp; omega)]; go_keep))) (first | (go_at_call 113; refine (nothing_any _).mono ?_; rintro e w' ⟨rfl, rfl⟩) | (go_at_call 105; refine (normal_nothing _).mono ?_; rintro e w1 ⟨rfl, hb1⟩; obtain ⟨hc1, hf1⟩ := bcell hb1))
    rename_i hH
    obtain ⟨x0, x1, x2⟩ := hH
    have hsz : w.heap.size < w1.heap.size := by have := hb1.size; simp at this; omega
    have hw1 : Below w.heap.size w w1 := (((Below.refl _ _).alloc (Nat.le_refl _) _).alloc (by simp) _).drew.trans (hb1.mono (by simp; omega))
    clear hb1 hc1 hf1 hq
    rcases hf : fmd l h s with _ | _
    · have E := Lib.hid (show chk l h s = 2 by unfold chk; rw [HC.out, hf]; simp)
      go_wp2_with (go_at_call 114; refine (formed_any _ _ _ _ hl hh hl2 hh2 hs hs2).mono ?_; rintro e w2 ⟨rfl, hb2⟩)
      go_ret
      exact ⟨by rw [E.out]; rfl, hw1.trans (hb2.mono (by omega))⟩
    · have E := Lib.hid (show chk l h s = if l < -1000000 ∨ 1000000 < h then 4 else 0 by unfold chk; rw [HC.out, hf]; simp)
      go_wp2_with fail
      refine (formed_any _ _ _ _ hl hh hl2 hh2 hs hs2).mono ?_
      rintro e w2 ⟨rfl, hb2⟩
      have y0 := (hb2.cell (p := ⟨w.heap.size, 0, none⟩) hsz).trans x0
      have y1 := (hb2.cell (p := ⟨w.heap.size, 1, none⟩) hsz).trans x1
      have hw2 := Lib.hid (hw1.trans (hb2.mono (by omega)))
      clear x0 x1 x2 hb2 hw1 hsz HC
      by_cases c1 : l < -1000000
      · go_wp2
        go_ret
        exact ⟨by rw [E.out, if_pos (Or.inl c1)]; rfl, hw2.out⟩
      · by_cases c2 : 1000000 < h
        · go_wp2
          go_ret
          exact ⟨by rw [E.out, if_pos (Or.inr c2)]; rfl, hw2.out⟩
        · go_wp2
          go_ret
          exact ⟨by rw [E.out, if_neg (by omega)]; rfl, hw2.out⟩
  · rw [hc] at hq
    have E := Lib.hid (show chk l h s = 0 by unfold chk; rw [hc]; simp)
    clear hc
    go_enter Try.func24, Try.ntmps24
    go_wp2_with fail
    go_region_held3 (fun w' => w'.cell? ⟨w.heap.size, 0, none⟩ = some (.int .i64 l) ∧ w'.cell? ⟨w.heap.size, 1, none⟩ = some (.int .i64 h) ∧ w'.cell? ⟨w.heap.size, 2, none⟩ = some (.int .i64 s)) (first | go_keep | (refine ⟨?_, ?_, ?_⟩ <;> (rw [hc1 _ _ (by simp; omega)]; go_keep))) (first | (go_at_call 113; refine (nothing_any _).mono ?_; rintro e w' ⟨rfl, rfl⟩) | (go_at_call 105; refine (normal_nothing _).mono ?_; rintro e w1 ⟨rfl, hb1⟩; obtain ⟨hc1, hf1⟩ := bcell hb1))
    have hw1 : Below w.heap.size w w1 := (((Below.refl _ _).alloc (Nat.le_refl _) _).alloc (by simp) _).drew.trans (hb1.mono (by simp; omega))
    clear hb1 hc1 hf1 hq
    go_wp2
    go_ret
    exact ⟨by rw [E.out]; rfl, hw1⟩
end Go.Proofs.Ytmelknodmbdhpaa
namespace Go.Proofs.Ytmelknodmbdhpaa
open Go.RowKit
/-- an int's bounds -/
def I64 (n : Int) : Prop := -9223372036854775808 ≤ n ∧ n ≤ 9223372036854775807
theorem check64 (l h s : Int) (w : World) (hl : I64 l) (hh : I64 h) (hs : I64 s) :
    Calls Try.prog 24 #[.agg #[.int .i64 l, .int .i64 h, .int .i64 s]] w fun e w' => e = .returned (.int .i64 (chk l h s)) ∧ Below w.heap.size w w' :=
  check_any l h s w hl.1 hh.2 hl.2 hh.1 hs.1 hs.2
theorem check_ok (l h s : Int) (w : World) (hl : I64 l) (hh : I64 h) (hs : I64 s) (hk : Hid (chk l h s = 0)) :
    Calls Try.prog 24 #[.agg #[.int .i64 l, .int .i64 h, .int .i64 s]] w fun e w' => e = .returned (.int .i64 0) ∧ Below w.heap.size w w' :=
  (check64 l h s w hl hh hs).mono fun _ _ ⟨he, hb⟩ => ⟨by rw [he, hk.out], hb⟩
theorem box3 {w w1 : World} {t : TypeId} {a b c : Value} (hb : Below (w.alloc (.cells #[a, b, c] t)).heap.size (w.alloc (.cells #[a, b, c] t)) w1) :
    Hid (Below w.heap.size w w1) ∧ w.heap.size < w1.heap.size ∧ w1.cell? ⟨w.heap.size, 0, none⟩ = some a ∧ w1.cell? ⟨w.heap.size, 1, none⟩ = some b ∧ w1.cell? ⟨w.heap.size, 2, none⟩ = some c := by
  have hs : w.heap.size < (w.alloc (.cells #[a, b, c] t)).heap.size := by simp
  refine ⟨((Below.refl _ _).alloc (Nat.le_refl _) _).trans (hb.mono (by omega)), Nat.lt_of_lt_of_le hs hb.size, ?_, ?_, ?_⟩
  · rw [hb.cell (p := ⟨w.heap.size, 0, none⟩) hs]; simp [go_sem]
  · rw [hb.cell (p := ⟨w.heap.size, 1, none⟩) hs]; simp [go_sem]
  · rw [hb.cell (p := ⟨w.heap.size, 2, none⟩) hs]; simp [go_sem]
theorem keep3 {B : Nat} {w w1 : World} {a b c : Value} (hb : Below w.heap.size w w1) (hs : B < w.heap.size) (h0 : w.cell? ⟨B, 0, none⟩ = some a) (h1 : w.cell? ⟨B, 1, none⟩ = some b) (h2 : w.cell? ⟨B, 2, none⟩ = some c) :
    B < w1.heap.size ∧ w1.cell? ⟨B, 0, none⟩ = some a ∧ w1.cell? ⟨B, 1, none⟩ = some b ∧ w1.cell? ⟨B, 2, none⟩ = some c :=
  ⟨Nat.lt_of_lt_of_le hs hb.size, (hb.cell (p := ⟨B, 0, none⟩) hs).trans h0, (hb.cell (p := ⟨B, 1, none⟩) hs).trans h1, (hb.cell (p := ⟨B, 2, none⟩) hs).trans h2⟩
/-- two steps, the first one hidden -/
theorem hidTrans {B : Nat} {w w1 w2 : World} (h : Hid (Below B w w1)) (k : Below w1.heap.size w1 w2) (hB : B ≤ w1.heap.size) : Hid (Below B w w2) := h.out.trans (k.mono hB)
/-- what a right range is -/
theorem chk_zero {l h s : Int} (hk : chk l h s = 0) : (l = 1 ∧ h = 0 ∧ s = 1) ∨ (-1000000 ≤ l ∧ l ≤ h ∧ h ≤ 1000000 ∧ s ≠ 0 ∧ -2000000 ≤ s ∧ s ≤ 2000000 ∧ 1 ≤ magA s ∧ magA s ≤ 2000000 ∧ (h - l) % magA s = 0 ∧ (l = h → s = 1)) := by
  unfold chk at hk
  by_cases c1 : reqB l h s 1 0 1 = true
  · left; simpa [reqB] using c1
  · right
    rw [if_neg c1] at hk
    by_cases c2 : fmd l h s = false
    · rw [if_pos c2] at hk; omega
    · rw [if_neg c2] at hk
      have c3 : ¬ (l < -1000000 ∨ 1000000 < h) := by intro c3; rw [if_pos c3] at hk; omega
      have c4 : (l = h ∧ s = 1) ∨ (l < h ∧ s ≠ 0 ∧ (h - l) % s = 0) := by
        have : fmd l h s = true := by cases hf : fmd l h s <;> simp_all
        simpa [fmd] using this
      rcases c4 with ⟨rfl, rfl⟩ | ⟨c5, c6, c7⟩
      · exact ⟨by omega, by omega, by omega, by omega, by omega, by omega, by decide, by decide, by simp, fun _ => rfl⟩
      · have d : s ∣ h - l := Int.dvd_of_emod_eq_zero c7
        have hle : magA s ≤ h - l := by
          have : magA s ∣ h - l := by unfold magA; split; exact Int.neg_dvd.2 d; exact d
          exact Int.le_of_dvd (by omega) this
        have hdm : (h - l) % magA s = 0 := by
          unfold magA; split
          · rw [Int.emod_neg]; exact c7
          · exact c7
        have h1 : 1 ≤ magA s := by unfold magA; split <;> omega
        have h2 : -magA s ≤ s ∧ s ≤ magA s := by unfold magA; split <;> omega
        exact ⟨by omega, by omega, by omega, c6, by omega, by omega, h1, by omega, hdm, fun e => by omega⟩
/-- the number of numbers -/
def siz (l h s : Int) : Int := if chk l h s = 0 ∧ l ≤ h then (h - l) / magA s + 1 else 0
theorem open_empty (w : World) :
    Calls Try.prog 109 #[.agg #[.int .i64 1, .int .i64 0, .int .i64 1]] w fun e w' => e = .returned (.agg #[.int .i64 1, .int .i64 0, .int .i64 1, .bool false]) ∧ Below w.heap.size w w' :=
  (open_any 1 0 1 w (by omega) (by omega)).mono fun _ _ ⟨he, hb⟩ => ⟨he, hb⟩
set_option maxHeartbeats 400000 in
theorem size_bad (l h s : Int) (w : World) (hl : I64 l) (hh : I64 h) (hs : I64 s) (hk : ¬ chk l h s = 0) :
    Calls Try.prog 26 #[.agg #[.int .i64 l, .int .i64 h, .int .i64 s]] w fun e w' => e = .returned (.int .i64 0) ∧ Below w.heap.size w w' := by
  have hn : (chk l h s != 0) = true := by simp [hk]
  have hl := Lib.hid hl
  clear hk
  go_enter Try.func26, Try.ntmps26
  go_wp2_with fail
  refine (check64 l h s _ hl.out hh hs).mono ?_
  rintro e w1 ⟨rfl, hb1⟩
  obtain ⟨W1, -, -, -, -⟩ := box3 hb1
  clear hb1
  go_wp2
  go_ret
  exact ⟨rfl, W1.out⟩
set_option maxHeartbeats 400000 in
theorem Size_empty (w : World) :
    Calls Try.prog 26 #[.agg #[.int .i64 1, .int .i64 0, .int .i64 1]] w fun e w' => e = .returned (.int .i64 0) ∧ Below w.heap.size w w' := by
  go_enter Try.func26, Try.ntmps26
  go_wp2_with fail
  refine (check_ok 1 0 1 _ ⟨by omega, by omega⟩ ⟨by omega, by omega⟩ ⟨by omega, by omega⟩ (Lib.hid (show chk 1 0 1 = 0 by decide))).mono ?_
  rintro e w1 ⟨rfl, hb1⟩
  obtain ⟨W1, s1, x0, x1, x2⟩ := box3 hb1
  clear hb1
  go_wp2_with fail
  refine (open_empty _).mono ?_
  rintro e w2 ⟨rfl, hb2⟩
  have W2 := hidTrans W1 hb2 (by omega)
  have s2 := hb2.size
  clear hb2 W1 x0 x1 x2
  go_wp2_with fail
  refine (size_empty _).mono ?_
  rintro e w3 ⟨rfl, hb3⟩
  have W3 := hidTrans W2 hb3 (by omega)
  clear hb3 W2
  go_wp2
  go_ret
  exact ⟨rfl, W3.out⟩
set_option maxHeartbeats 400000 in
theorem size_ok (l h s : Int) (w : World) (hk : Hid (chk l h s = 0)) (hle : l ≤ h) :
    Calls Try.prog 26 #[.agg #[.int .i64 l, .int .i64 h, .int .i64 s]] w fun e w' => e = .returned (.int .i64 ((h - l) / magA s + 1)) ∧ Below w.heap.size w w' := by
  have hb : -1000000 ≤ l ∧ h ≤ 1000000 ∧ -2000000 ≤ s ∧ s ≤ 2000000 ∧ 1 ≤ magA s := by
    rcases chk_zero hk.out with ⟨rfl, rfl, rfl⟩ | ⟨a1, a2, a3, a4, a5, a6, a7, _⟩
    · omega
    · exact ⟨a1, a3, a5, a6, a7⟩
  obtain ⟨b1, b2, b3, b4, b5⟩ := hb
  go_enter Try.func26, Try.ntmps26
  go_wp2_with fail
  refine (check_ok l h s _ ⟨by omega, by omega⟩ ⟨by omega, by omega⟩ ⟨by omega, by omega⟩ hk).mono ?_
  rintro e w1 ⟨rfl, hb1⟩
  obtain ⟨W1, s1, x0, x1, x2⟩ := box3 hb1
  clear hb1
  go_wp2_with fail
  refine (open_any _ _ _ _ (by omega) (by omega)).mono ?_
  rintro e w2 ⟨rfl, hb2⟩
  have W2 := hidTrans W1 hb2 (by omega)
  have s2 := hb2.size
  clear hb2 W1 x0 x1 x2
  go_wp2_with fail
  refine (size_any _ _ _ _ _ b5 hle (by omega) (by omega)).mono ?_
  rintro e w3 ⟨rfl, hb3⟩
  have W3 := hidTrans W2 hb3 (by omega)
  clear hb3 W2
  go_wp2
  go_ret
  exact ⟨rfl, W3.out⟩
theorem Size_any (l h s : Int) (w : World) (hl : I64 l) (hh : I64 h) (hs : I64 s) :
    Calls Try.prog 26 #[.agg #[.int .i64 l, .int .i64 h, .int .i64 s]] w fun e w' => e = .returned (.int .i64 (siz l h s)) ∧ Below w.heap.size w w' := by
  by_cases hk : chk l h s = 0
  · by_cases hle : l ≤ h
    · exact (size_ok l h s w hk hle).mono fun _ _ ⟨he, hb⟩ => ⟨by rw [he]; unfold siz; rw [if_pos ⟨hk, hle⟩], hb⟩
    · rcases chk_zero hk with ⟨rfl, rfl, rfl⟩ | ⟨a1, a2, _⟩
      · exact (Size_empty w).mono fun _ _ ⟨he, hb⟩ => ⟨by rw [he]; rfl, hb⟩
      · omega
  · exact (size_bad l h s w hl hh hs hk).mono fun _ _ ⟨he, hb⟩ => ⟨by rw [he]; unfold siz; rw [if_neg (fun c => hk c.1)], hb⟩
end Go.Proofs.Ytmelknodmbdhpaa
namespace Go.Proofs.Ytmelknodmbdhpaa
open Go.RowKit
theorem chk_bounds {l h s : Int} (hk : chk l h s = 0) : -1000000 ≤ l ∧ l ≤ 1000000 ∧ -1000000 ≤ h ∧ h ≤ 1000000 ∧ -2000000 ≤ s ∧ s ≤ 2000000 ∧ 1 ≤ magA s ∧ magA s ≤ 2000000 := by
  rcases chk_zero hk with ⟨rfl, rfl, rfl⟩ | ⟨a1, a2, a3, a4, a5, a6, a7, a8, _⟩
  · decide
  · omega
theorem quo_bd (a b : Int) (h : 0 ≤ a) (hb : 1 ≤ b) : 0 ≤ a / b ∧ a / b ≤ a := IntWalk.tdiv_le a b h hb
/-- whether a number is in a range -/
def posB (l h s n : Int) : Bool := decide (chk l h s = 0 ∧ l ≤ n ∧ n ≤ h ∧ (n - l) % magA s = 0)
/-- its position -/
def posN (l h s n : Int) : Int := if posB l h s n = true then (if s < 0 then (h - n) / magA s else (n - l) / magA s) else 0
set_option maxHeartbeats 400000 in
theorem pos_no (l h s n : Int) (w : World) (hl : I64 l) (hh : I64 h) (hs : I64 s) (_hn : I64 n) (hp : posB l h s n = false) :
    Calls Try.prog 22 #[.agg #[.int .i64 l, .int .i64 h, .int .i64 s], .int .i64 n] w fun e w' => e = .returned (.tuple #[.int .i64 0, .bool false]) ∧ Below w.heap.size w w' := by
  by_cases hk : chk l h s = 0
  · obtain ⟨b1, b2, b3, b4, b5, b6, b7, b8⟩ := chk_bounds hk
    have HK := Lib.hid hk
    have HP := Lib.hid hp
    clear hk hp
    by_cases c1 : n < l
    · go_enter Try.func22, Try.ntmps22
      go_wp2_with fail
      refine (check_ok l h s _ hl hh hs HK).mono ?_
      rintro e w1 ⟨rfl, hb1⟩
      obtain ⟨W1, s1, x0, x1, x2⟩ := box3 hb1
      clear hb1
      go_wp2
      go_ret2
      exact ⟨rfl, W1.out⟩
    · by_cases c2 : h < n
      · go_enter Try.func22, Try.ntmps22
        go_wp2_with fail
        refine (check_ok l h s _ hl hh hs HK).mono ?_
        rintro e w1 ⟨rfl, hb1⟩
        obtain ⟨W1, s1, x0, x1, x2⟩ := box3 hb1
        clear hb1
        go_wp2
        go_ret2
        exact ⟨rfl, W1.out⟩
      · have c3 : ((n - l) % magA s != 0) = true := by
          have := HP.out
          simp only [posB, decide_eq_false_iff_not] at this
          simp only [bne_iff_ne, ne_eq]
          exact fun c => this ⟨HK.out, by omega, by omega, c⟩
        go_enter Try.func22, Try.ntmps22
        go_wp2_with fail
        refine (check_ok l h s _ hl hh hs HK).mono ?_
        rintro e w1 ⟨rfl, hb1⟩
        obtain ⟨W1, s1, x0, x1, x2⟩ := box3 hb1
        clear hb1
        go_wp2_with fail
        refine (open_any _ _ _ _ (by omega) (by omega)).mono ?_
        rintro e w2 ⟨rfl, hb2⟩
        have W2 := hidTrans W1 hb2 (by omega)
        have s2 := hb2.size
        clear hb2 W1 x0 x1 x2
        go_wp2
        go_ret2
        exact ⟨rfl, W2.out.alloc (by omega) _⟩
  · have hn : (chk l h s != 0) = true := by simp [hk]
    clear hk hp
    go_enter Try.func22, Try.ntmps22
    go_wp2_with fail
    refine (check64 l h s _ hl hh hs).mono ?_
    rintro e w1 ⟨rfl, hb1⟩
    obtain ⟨W1, s1, x0, x1, x2⟩ := box3 hb1
    clear hb1
    go_wp2
    go_ret2
    exact ⟨rfl, W1.out⟩
set_option maxHeartbeats 400000 in
theorem pos_yes (l h s n : Int) (w : World) (hp : posB l h s n = true) :
    Calls Try.prog 22 #[.agg #[.int .i64 l, .int .i64 h, .int .i64 s], .int .i64 n] w fun e w' => e = .returned (.tuple #[.int .i64 (posN l h s n), .bool true]) ∧ Below w.heap.size w w' := by
  have HP := Lib.hid hp
  simp only [posB, decide_eq_true_eq] at hp
  obtain ⟨hk, a1, a2, a3⟩ := hp
  obtain ⟨b1, b2, b3, b4, b5, b6, b7, b8⟩ := chk_bounds hk
  have HK := Lib.hid hk
  have c3 : ((n - l) % magA s != 0) = false := by simp [a3]
  have q1 := quo_bd (h - n) (magA s) (by omega) b7
  have q2 := quo_bd (n - l) (magA s) (by omega) b7
  clear hk a3
  by_cases c4 : s < 0
  · have E := Lib.hid (show posN l h s n = (h - n) / magA s by unfold posN; rw [if_pos HP.out, if_pos c4])
    have c5 : decide (s < 0) = true := by simp [c4]
    go_enter Try.func22, Try.ntmps22
    go_wp2_with fail
    refine (check_ok l h s _ ⟨by omega, by omega⟩ ⟨by omega, by omega⟩ ⟨by omega, by omega⟩ HK).mono ?_
    rintro e w1 ⟨rfl, hb1⟩
    obtain ⟨W1, s1, x0, x1, x2⟩ := box3 hb1
    clear hb1
    go_wp2_with fail
    refine (open_any _ _ _ _ (by omega) (by omega)).mono ?_
    rintro e w2 ⟨rfl, hb2⟩
    have W2 := hidTrans W1 hb2 (by omega)
    have s2 := hb2.size
    clear hb2 W1 x0 x1 x2
    go_wp2
    go_ret2
    exact ⟨by rw [E.out]; rfl, W2.out.alloc (by omega) _⟩
  · have E := Lib.hid (show posN l h s n = (n - l) / magA s by unfold posN; rw [if_pos HP.out, if_neg c4])
    have c5 : decide (s < 0) = false := by simp; omega
    go_enter Try.func22, Try.ntmps22
    go_wp2_with fail
    refine (check_ok l h s _ ⟨by omega, by omega⟩ ⟨by omega, by omega⟩ ⟨by omega, by omega⟩ HK).mono ?_
    rintro e w1 ⟨rfl, hb1⟩
    obtain ⟨W1, s1, x0, x1, x2⟩ := box3 hb1
    clear hb1
    go_wp2_with fail
    refine (open_any _ _ _ _ (by omega) (by omega)).mono ?_
    rintro e w2 ⟨rfl, hb2⟩
    have W2 := hidTrans W1 hb2 (by omega)
    have s2 := hb2.size
    clear hb2 W1 x0 x1 x2
    go_wp2
    go_ret2
    exact ⟨by rw [E.out]; rfl, W2.out.alloc (by omega) _⟩
theorem Position_any (l h s n : Int) (w : World) (hl : I64 l) (hh : I64 h) (hs : I64 s) (hn : I64 n) :
    Calls Try.prog 22 #[.agg #[.int .i64 l, .int .i64 h, .int .i64 s], .int .i64 n] w fun e w' => e = .returned (.tuple #[.int .i64 (posN l h s n), .bool (posB l h s n)]) ∧ Below w.heap.size w w' := by
  cases hp : posB l h s n
  · exact (pos_no l h s n w hl hh hs hn hp).mono fun _ _ ⟨he, hb⟩ => ⟨by rw [he]; unfold posN; rw [hp]; rfl, hb⟩
  · exact (pos_yes l h s n w hp).mono fun _ _ ⟨he, hb⟩ => ⟨he, hb⟩
end Go.Proofs.Ytmelknodmbdhpaa
namespace Go.Proofs.Ytmelknodmbdhpaa
open Go.RowKit
/-- the error of Nth -/
def nthE (l h s k : Int) : Int := if chk l h s = 0 then (if 0 ≤ k ∧ k < siz l h s then 0 else 4) else chk l h s
/-- the number of Nth -/
def nthN (l h s k : Int) : Int := if nthE l h s k = 0 then (if s < 0 then h - k * magA s else l + k * magA s) else 0
theorem siz_ok {l h s : Int} (hk : chk l h s = 0) (hle : l ≤ h) : siz l h s = (h - l) / magA s + 1 := if_pos ⟨hk, hle⟩
theorem mul_bd (k d m : Int) (h0 : 0 ≤ k) (h1 : k < d / m + 1) (hm : 1 ≤ m) : 0 ≤ k * m ∧ k * m ≤ d := by
  refine ⟨Int.mul_nonneg h0 (by omega), ?_⟩
  have h2 : k ≤ d / m := by omega
  exact (Int.le_ediv_iff_mul_le (by omega)).1 h2
theorem le_of_chk {l h s : Int} (hk : chk l h s = 0) (hn : ¬ l ≤ h) : l = 1 ∧ h = 0 ∧ s = 1 := by
  rcases chk_zero hk with a | ⟨a1, a2, _⟩
  · exact a
  · omega
set_option maxHeartbeats 400000 in
theorem nth_bad (l h s k : Int) (w : World) (hl : I64 l) (hh : I64 h) (hs : I64 s) (hk : ¬ chk l h s = 0) :
    Calls Try.prog 20 #[.agg #[.int .i64 l, .int .i64 h, .int .i64 s], .int .i64 k] w fun e w' => e = .returned (.tuple #[.int .i64 0, .int .i64 (chk l h s)]) ∧ Below w.heap.size w w' := by
  have hn : (chk l h s != 0) = true := by simp [hk]
  clear hk
  go_enter Try.func20, Try.ntmps20
  go_wp2_with fail
  refine (check64 l h s _ hl hh hs).mono ?_
  rintro e w1 ⟨rfl, hb1⟩
  obtain ⟨W1, s1, x0, x1, x2⟩ := box3 hb1
  clear hb1
  go_wp2
  go_ret2
  exact ⟨rfl, W1.out⟩
set_option maxHeartbeats 400000 in
theorem nth_neg (l h s k : Int) (w : World) (hk : chk l h s = 0) (hn : k < 0) :
    Calls Try.prog 20 #[.agg #[.int .i64 l, .int .i64 h, .int .i64 s], .int .i64 k] w fun e w' => e = .returned (.tuple #[.int .i64 0, .int .i64 4]) ∧ Below w.heap.size w w' := by
  obtain ⟨b1, b2, b3, b4, b5, b6, b7, b8⟩ := chk_bounds hk
  have HK := Lib.hid hk
  clear hk
  go_enter Try.func20, Try.ntmps20
  go_wp2_with fail
  refine (check_ok l h s _ ⟨by omega, by omega⟩ ⟨by omega, by omega⟩ ⟨by omega, by omega⟩ HK).mono ?_
  rintro e w1 ⟨rfl, hb1⟩
  obtain ⟨W1, s1, x0, x1, x2⟩ := box3 hb1
  clear hb1
  go_wp2_with fail
  refine (open_any _ _ _ _ (by omega) (by omega)).mono ?_
  rintro e w2 ⟨rfl, hb2⟩
  have W2 := hidTrans W1 hb2 (by omega)
  have s2 := hb2.size
  clear hb2 W1 x0 x1 x2
  go_wp2
  go_ret2
  exact ⟨rfl, W2.out.alloc (by omega) _⟩
set_option maxHeartbeats 400000 in
theorem nth_empty (k : Int) (w : World) (hn : 0 ≤ k) :
    Calls Try.prog 20 #[.agg #[.int .i64 1, .int .i64 0, .int .i64 1], .int .i64 k] w fun e w' => e = .returned (.tuple #[.int .i64 0, .int .i64 4]) ∧ Below w.heap.size w w' := by
  go_enter Try.func20, Try.ntmps20
  go_wp2_with fail
  refine (check_ok 1 0 1 _ ⟨by omega, by omega⟩ ⟨by omega, by omega⟩ ⟨by omega, by omega⟩ (Lib.hid (show chk 1 0 1 = 0 by decide))).mono ?_
  rintro e w1 ⟨rfl, hb1⟩
  obtain ⟨W1, s1, x0, x1, x2⟩ := box3 hb1
  clear hb1
  go_wp2_with fail
  refine (open_empty _).mono ?_
  rintro e w2 ⟨rfl, hb2⟩
  have W2 := hidTrans W1 hb2 (by omega)
  have s2 := hb2.size
  clear hb2 W1 x0 x1 x2
  go_wp2_with fail
  refine (size_empty _).mono ?_
  rintro e w3 ⟨rfl, hb3⟩
  have W3 := hidTrans (Lib.hid (W2.out.alloc (by omega) _)) hb3 (by simp; omega)
  clear hb3 W2
  go_wp2
  go_ret2
  exact ⟨rfl, W3.out⟩
theorem size_flag (l h s : Int) (dn : Bool) (w : World) (h0 : 1 ≤ s) (h1 : l ≤ h) (h2 : -4000000 ≤ l) (h3 : h ≤ 4000000) (n : Int) (hn : Hid (n = (h - l) / s + 1)) :
    Calls Try.prog 110 #[.agg #[.int .i64 l, .int .i64 h, .int .i64 s, .bool dn]] w fun e w' => e = .returned (.int .i64 n) ∧ Below w.heap.size w w' :=
  (size_any l h s dn w h0 h1 h2 h3).mono fun _ _ ⟨he, hb⟩ => ⟨by rw [he, hn.out], hb⟩
theorem box4 {w w1 : World} {t : TypeId} {a b c d : Value} (hb : Below (w.alloc (.cells #[a, b, c, d] t)).heap.size (w.alloc (.cells #[a, b, c, d] t)) w1) :
    Hid (Below w.heap.size w w1) ∧ w.heap.size < w1.heap.size ∧ w1.cell? ⟨w.heap.size, 0, none⟩ = some a ∧ w1.cell? ⟨w.heap.size, 1, none⟩ = some b ∧ w1.cell? ⟨w.heap.size, 2, none⟩ = some c ∧ w1.cell? ⟨w.heap.size, 3, none⟩ = some d := by
  have hs : w.heap.size < (w.alloc (.cells #[a, b, c, d] t)).heap.size := by simp
  refine ⟨((Below.refl _ _).alloc (Nat.le_refl _) _).trans (hb.mono (by omega)), Nat.lt_of_lt_of_le hs hb.size, ?_, ?_, ?_, ?_⟩
  · rw [hb.cell (p := ⟨w.heap.size, 0, none⟩) hs]; simp [go_sem]
  · rw [hb.cell (p := ⟨w.heap.size, 1, none⟩) hs]; simp [go_sem]
  · rw [hb.cell (p := ⟨w.heap.size, 2, none⟩) hs]; simp [go_sem]
  · rw [hb.cell (p := ⟨w.heap.size, 3, none⟩) hs]; simp [go_sem]
set_option maxHeartbeats 400000 in
theorem nth_over (l h s k : Int) (w : World) (hk : chk l h s = 0) (hle : l ≤ h) (h0 : 0 ≤ k) (h1 : siz l h s ≤ k) :
    Calls Try.prog 20 #[.agg #[.int .i64 l, .int .i64 h, .int .i64 s], .int .i64 k] w fun e w' => e = .returned (.tuple #[.int .i64 0, .int .i64 4]) ∧ Below w.heap.size w w' := by
  obtain ⟨b1, b2, b3, b4, b5, b6, b7, b8⟩ := chk_bounds hk
  have HS := Lib.hid (siz_ok hk hle)
  have HK := Lib.hid hk
  clear hk
  go_enter Try.func20, Try.ntmps20
  go_wp2_with fail
  refine (check_ok l h s _ ⟨by omega, by omega⟩ ⟨by omega, by omega⟩ ⟨by omega, by omega⟩ HK).mono ?_
  rintro e w1 ⟨rfl, hb1⟩
  obtain ⟨W1, s1, x0, x1, x2⟩ := box3 hb1
  clear hb1
  go_wp2_with fail
  refine (open_any _ _ _ _ (by omega) (by omega)).mono ?_
  rintro e w2 ⟨rfl, hb2⟩
  have W2 := hidTrans W1 hb2 (by omega)
  have s2 := hb2.size
  clear hb2 W1 x0 x1 x2
  go_wp2_with fail
  refine (size_flag _ _ _ _ _ b7 hle (by omega) (by omega) _ HS).mono ?_
  rintro e w3 ⟨rfl, hb3⟩
  obtain ⟨W3, s3, x0, x1, x2, x3⟩ := box4 hb3
  have W4 := hidTrans W2 W3.out (by omega)
  clear hb3 W2 W3
  go_wp2
  go_ret2
  exact ⟨rfl, W4.out⟩
set_option maxHeartbeats 400000 in
theorem nth_good (l h s k : Int) (w : World) (hk : chk l h s = 0) (hle : l ≤ h) (h0 : 0 ≤ k) (h1 : k < siz l h s) :
    Calls Try.prog 20 #[.agg #[.int .i64 l, .int .i64 h, .int .i64 s], .int .i64 k] w fun e w' => e = .returned (.tuple #[.int .i64 (if s < 0 then h - k * magA s else l + k * magA s), .int .i64 0]) ∧ Below w.heap.size w w' := by
  obtain ⟨b1, b2, b3, b4, b5, b6, b7, b8⟩ := chk_bounds hk
  have HS := Lib.hid (siz_ok hk hle)
  have hm := mul_bd k (h - l) (magA s) h0 (by have := HS.out; omega) b7
  have h2 : ¬ siz l h s ≤ k := by omega
  have HK := Lib.hid hk
  clear hk
  by_cases c4 : s < 0
  · rw [if_pos c4]
    have c5 : decide (s < 0) = true := by simp [c4]
    go_enter Try.func20, Try.ntmps20
    go_wp2_with fail
    refine (check_ok l h s _ ⟨by omega, by omega⟩ ⟨by omega, by omega⟩ ⟨by omega, by omega⟩ HK).mono ?_
    rintro e w1 ⟨rfl, hb1⟩
    obtain ⟨W1, s1, x0, x1, x2⟩ := box3 hb1
    clear hb1
    go_wp2_with fail
    refine (open_any _ _ _ _ (by omega) (by omega)).mono ?_
    rintro e w2 ⟨rfl, hb2⟩
    have W2 := hidTrans W1 hb2 (by omega)
    have s2 := hb2.size
    clear hb2 W1 x0 x1 x2
    go_wp2_with fail
    refine (size_flag _ _ _ _ _ b7 hle (by omega) (by omega) _ HS).mono ?_
    rintro e w3 ⟨rfl, hb3⟩
    obtain ⟨W3, s3, x0, x1, x2, x3⟩ := box4 hb3
    have W4 := hidTrans W2 W3.out (by omega)
    clear hb3 W2 W3
    go_wp2_with fail
    refine (nth_down _ _ _ _ _ (by omega) (by omega) (by omega) (by omega)).mono ?_
    rintro e w4 ⟨rfl, hb4⟩
    have W5 := hidTrans W4 hb4 (by omega)
    clear hb4 W4
    go_wp2
    go_ret2
    exact ⟨rfl, W5.out⟩
  · rw [if_neg c4]
    have c5 : decide (s < 0) = false := by simp; omega
    go_enter Try.func20, Try.ntmps20
    go_wp2_with fail
    refine (check_ok l h s _ ⟨by omega, by omega⟩ ⟨by omega, by omega⟩ ⟨by omega, by omega⟩ HK).mono ?_
    rintro e w1 ⟨rfl, hb1⟩
    obtain ⟨W1, s1, x0, x1, x2⟩ := box3 hb1
    clear hb1
    go_wp2_with fail
    refine (open_any _ _ _ _ (by omega) (by omega)).mono ?_
    rintro e w2 ⟨rfl, hb2⟩
    have W2 := hidTrans W1 hb2 (by omega)
    have s2 := hb2.size
    clear hb2 W1 x0 x1 x2
    go_wp2_with fail
    refine (size_flag _ _ _ _ _ b7 hle (by omega) (by omega) _ HS).mono ?_
    rintro e w3 ⟨rfl, hb3⟩
    obtain ⟨W3, s3, x0, x1, x2, x3⟩ := box4 hb3
    have W4 := hidTrans W2 W3.out (by omega)
    clear hb3 W2 W3
    go_wp2_with fail
    refine (nth_up _ _ _ _ _ (by omega) (by omega) (by omega) (by omega)).mono ?_
    rintro e w4 ⟨rfl, hb4⟩
    have W5 := hidTrans W4 hb4 (by omega)
    clear hb4 W4
    go_wp2
    go_ret2
    exact ⟨rfl, W5.out⟩
theorem Nth_any (l h s k : Int) (w : World) (hl : I64 l) (hh : I64 h) (hs : I64 s) :
    Calls Try.prog 20 #[.agg #[.int .i64 l, .int .i64 h, .int .i64 s], .int .i64 k] w fun e w' => e = .returned (.tuple #[.int .i64 (nthN l h s k), .int .i64 (nthE l h s k)]) ∧ Below w.heap.size w w' := by
  by_cases hk : chk l h s = 0
  · by_cases h0 : 0 ≤ k
    · by_cases hle : l ≤ h
      · by_cases h1 : k < siz l h s
        · have e1 : nthE l h s k = 0 := by unfold nthE; rw [if_pos hk, if_pos ⟨h0, h1⟩]
          exact (nth_good l h s k w hk hle h0 h1).mono fun _ _ ⟨he, hb⟩ => ⟨by rw [he]; unfold nthN; rw [e1]; simp, hb⟩
        · have e1 : nthE l h s k = 4 := by unfold nthE; rw [if_pos hk, if_neg (fun c => h1 c.2)]
          exact (nth_over l h s k w hk hle h0 (by omega)).mono fun _ _ ⟨he, hb⟩ => ⟨by rw [he]; unfold nthN; rw [e1]; simp, hb⟩
      · obtain ⟨rfl, rfl, rfl⟩ := le_of_chk hk hle
        have e0 : siz 1 0 1 = 0 := by decide
        have e1 : nthE 1 0 1 k = 4 := by unfold nthE; rw [if_pos hk, e0, if_neg (by omega)]
        exact (nth_empty k w h0).mono fun _ _ ⟨he, hb⟩ => ⟨by rw [he]; unfold nthN; rw [e1]; simp, hb⟩
    · have e1 : nthE l h s k = 4 := by unfold nthE; rw [if_pos hk, if_neg (fun c => h0 c.1)]
      exact (nth_neg l h s k w hk (by omega)).mono fun _ _ ⟨he, hb⟩ => ⟨by rw [he]; unfold nthN; rw [e1]; simp, hb⟩
  · have e1 : nthE l h s k = chk l h s := if_neg hk
    exact (nth_bad l h s k w hl hh hs hk).mono fun _ _ ⟨he, hb⟩ => ⟨by rw [he]; unfold nthN; rw [e1]; simp [hk], hb⟩
theorem rem_bd (a m : Int) (h : 0 ≤ a) (hm : 1 ≤ m) : 0 ≤ a % m ∧ a % m ≤ a :=
  ⟨Int.emod_nonneg _ (by omega), by
    have := Int.mul_ediv_add_emod a m
    have h2 : 0 ≤ m * (a / m) := Int.mul_nonneg (by omega) (Int.ediv_nonneg h (by omega))
    omega⟩
end Go.Proofs.Ytmelknodmbdhpaa
namespace Go.Proofs.Ytmelknodmbdhpaa
open Go.RowKit
theorem refEmpty_any (w : World) :
    Calls Try.prog 107 #[] w fun e w' => e = .returned (.agg #[.int .i64 1, .int .i64 0, .int .i64 1]) ∧ w.alloc (.cells #[.int .i64 1, .int .i64 0, .int .i64 1] 23) = w' := by
  go_enter Try.func107, Try.ntmps107
  go_wp2
  exact bodyPost_ret (v := .agg #[.int .i64 1, .int .i64 0, .int .i64 1]) (by simp [results, Try.results107, go_sem]) rfl ⟨rfl, rfl⟩
set_option maxHeartbeats 400000 in
theorem refIsEmpty_any (l h s : Int) (w : World) :
    Calls Try.prog 115 #[.agg #[.int .i64 l, .int .i64 h, .int .i64 s]] w fun e w' => e = .returned (.bool (reqB l h s 1 0 1)) ∧ Below w.heap.size w w' := by
  have hq := eq_range l h s 1 0 1
  go_enter Try.func115, Try.ntmps115
  go_wp2_with fail
  go_region_held3 (fun w' => w'.cell? ⟨w.heap.size, 0, none⟩ = some (.int .i64 l) ∧ w'.cell? ⟨w.heap.size, 1, none⟩ = some (.int .i64 h) ∧ w'.cell? ⟨w.heap.size, 2, none⟩ = some (.int .i64 s)) (go_keep) (first | (go_at_call 107; refine (refEmpty_any _).mono ?_; rintro e w' ⟨rfl, rfl⟩))
  clear hq
  go_wp2
  go_ret
  refine ⟨rfl, ?_⟩
  repeat (first | exact Below.refl _ _ | refine Below.alloc ?_ (by simp; try omega) _ | refine Below.drew ?_)
end Go.Proofs.Ytmelknodmbdhpaa
namespace Go.Proofs.Ytmelknodmbdhpaa
open Go.RowKit
theorem ediv_mul (a m : Int) : a / m * m = a - a % m := by
  have := Int.mul_ediv_add_emod a m
  rw [Int.mul_comm] at this; omega
end Go.Proofs.Ytmelknodmbdhpaa
namespace Go.Proofs.Ytmelknodmbdhpaa
open Go.RowKit
def byDn (dn : Bool) (n : Int) : Bool := !dn == decide (n < 0)
def byLo (l h m : Int) (dn : Bool) (n : Int) : Int := if byDn dn n = true then l + (h - l) % (m * magA n) else l
def byHi (l h m : Int) (dn : Bool) (n : Int) : Int := if byDn dn n = true then h else h - (h - l) % (m * magA n)
theorem mul_le (a b A B : Int) (h0 : 1 ≤ a) (h1 : a ≤ A) (h2 : 1 ≤ b) (h3 : b ≤ B) : 1 ≤ a * b ∧ a * b ≤ A * B := by
  have e1 : 1 * 1 ≤ a * b := Int.mul_le_mul h0 h2 (by omega) (by omega)
  have e2 : a * b ≤ A * B := Int.mul_le_mul h1 h3 (by omega) (by omega)
  omega
set_option maxHeartbeats 1600000 in
theorem byClo (l h m n : Int) (dn : Bool) (b o : Nat) (w : World) (hc : w.cell? ⟨b, o, none⟩ = some (.int .i64 n)) (h0 : -1000000 ≤ l) (h1 : l ≤ h) (h2 : h ≤ 1000000) (h3 : 1 ≤ m) (h4 : m ≤ 2000000) (h5 : ¬ n = 0) (h6 : -1000000 ≤ n) (h7 : n ≤ 1000000) :
    Calls Try.prog 118 #[.agg #[.int .i64 l, .int .i64 h, .int .i64 m, .bool dn], .pointer (some ⟨b, o, none⟩)] w fun e w' => e = .returned (.agg #[.int .i64 (byLo l h m dn n), .int .i64 (byHi l h m dn n), .int .i64 (m * magA n), .bool (byDn dn n)]) ∧ Below w.heap.size w w' := by
  have hb : b < w.heap.size := World.block_lt_of_cell? w _ hc
  have hne : b ≠ w.heap.size := by omega
  have hne1 : b ≠ w.heap.size + 1 := by omega
  have m1 : 1 ≤ magA n := by unfold magA; split <;> omega
  have m2 : magA n ≤ 1000000 := by unfold magA; split <;> omega
  have p := mul_le m (magA n) 2000000 1000000 h3 h4 m1 m2
  have r := rem_bd (h - l) (m * magA n) (by omega) p.1
  have k1 : IntKind.i64.wrap (magA n) = magA n := IntWalk.i64_in _ (by omega)
  have k2 : IntKind.i64.wrap (m * magA n) = m * magA n := IntWalk.i64_in _ (by omega)
  have hd : byDn dn n = (!dn == decide (n < 0)) := rfl
  rcases hq : byDn dn n with _ | _
  · rw [hq] at hd
    have E := Lib.hid (show byLo l h m dn n = l ∧ byHi l h m dn n = h - (h - l) % (m * magA n) from ⟨by unfold byLo; rw [hq]; rfl, by unfold byHi; rw [hq]; rfl⟩)
    rw [E.out.1, E.out.2]
    have hd' := hd.symm
    clear hq hd
    go_enter Try.func118, Try.ntmps118
    go_wp2_with fail
    refine wp_region_held_drew (S := (fun w' => w'.cell? ⟨w.heap.size, 0, none⟩ = some (.int .i64 l) ∧ w'.cell? ⟨w.heap.size, 1, none⟩ = some (.int .i64 h) ∧ w'.cell? ⟨w.heap.size, 2, none⟩ = some (.int .i64 m) ∧ w'.cell? ⟨b, o, none⟩ = some (.int .i64 n))) (by kernel_rfl) ?_ (fun hHeld => ?_)
    · first | go_keep
    refine wpAnyH_take (i := 0) (oi := { dst := some 9, op := Op.fieldAddr 102 (Operand.tmp 2) 2, type := 0, pos := "span.go:124", after := #[], guard := none }) (v := ?_) rfl (by kernel_rfl) (by kernel_rfl) (by kernel_rfl) (fun _ _ _ h => h) (Or.inl ⟨by rfl, ?_⟩) (by assumption) ?_
    rotate_left
    · (intro w hSw; (try dsimp only at hSw); go_simp; first | done | with_reducible rfl)
    try simp only [Act.put, List.setIfInBounds_toArray, List.set_cons_zero, List.set_cons_succ]
    refine wpAnyH_take (i := 1) (oi := { dst := some 10, op := Op.load 3 (Operand.tmp 9), type := 3, pos := "span.go:124", after := #[{ on := 0, ground := Ground.data }], guard := none }) (v := ?_) rfl (by kernel_rfl) (by kernel_rfl) (by kernel_rfl) (fun _ _ _ h => h) (Or.inl ⟨by rfl, ?_⟩) (by assumption) ?_
    rotate_left
    · (intro w hSw; (try dsimp only at hSw); go_simp; first | done | with_reducible rfl)
    try simp only [Act.put, List.setIfInBounds_toArray, List.set_cons_zero, List.set_cons_succ]
    refine wpAnyH_take (i := 2) (oi := { dst := some 11, op := Op.load 3 (Operand.tmp 1), type := 3, pos := "span.go:124", after := #[], guard := none }) (v := ?_) rfl (by kernel_rfl) (by kernel_rfl) (by kernel_rfl) (fun _ _ _ h => h) (Or.inl ⟨by rfl, ?_⟩) (by assumption) ?_
    rotate_left
    · (intro w hSw; (try dsimp only at hSw); go_simp; first | done | with_reducible rfl)
    try simp only [Act.put, List.setIfInBounds_toArray, List.set_cons_zero, List.set_cons_succ]
    refine wpAnyH_ready (rs := [3]) (by kernel_rfl) (by simp) ?_
    refine AllReadyH.cons (o := { dst := some 12, op := Op.call { callee := Callee.value (Operand.func 104), args := #[Operand.tmp 11], argTypes := #[3] }, type := 99, pos := "span.go:124", after := #[{ on := 2, ground := Ground.data }], guard := none }) rfl (fun K hK => ?_) AllReadyH.nil
    go_simp
    refine (magnitude_any _ _ (by omega) (by omega)).mono ?_
    rintro e w' ⟨rfl, rfl⟩
    go_wp2_with fail
    refine hK.out _ _ ?_ (fun hHeld3 => ?_)
    · first | go_keep
    clear hK K hHeld
    have hHeld := hHeld3
    clear hHeld3
    try simp only [Act.put, List.setIfInBounds_toArray, List.set_cons_zero, List.set_cons_succ]
    refine wpAnyH_take (i := 4) (oi := { dst := some 13, op := Op.convert 99 3 (Operand.tmp 12), type := 3, pos := "span.go:124", after := #[{ on := 3, ground := Ground.data }], guard := none }) (v := ?_) rfl (by kernel_rfl) (by kernel_rfl) (by kernel_rfl) (fun _ _ _ h => h) (Or.inl ⟨by rfl, ?_⟩) (by assumption) ?_
    rotate_left
    · (intro w hSw; (try dsimp only at hSw); go_simp; first | done | with_reducible rfl)
    try simp only [Act.put, List.setIfInBounds_toArray, List.set_cons_zero, List.set_cons_succ]
    refine wpAnyH_take (i := 5) (oi := { dst := some 14, op := Op.binOp BinOp.mul 3 (Operand.tmp 10) (Operand.tmp 13) 3, type := 3, pos := "span.go:124", after := #[{ on := 1, ground := Ground.data }, { on := 4, ground := Ground.data }], guard := none }) (v := ?_) rfl (by kernel_rfl) (by kernel_rfl) (by kernel_rfl) (fun _ _ _ h => h) (Or.inl ⟨by rfl, ?_⟩) (by assumption) ?_
    rotate_left
    · (intro w hSw; (try dsimp only at hSw); go_simp; first | done | with_reducible rfl)
    try simp only [Act.put, List.setIfInBounds_toArray, List.set_cons_zero, List.set_cons_succ]
    refine wpAnyH_take (i := 6) (oi := { dst := some 5, op := Op.assign (Operand.tmp 14), type := 3, pos := "span.go:124", after := #[{ on := 5, ground := Ground.data }, { on := 3, ground := Ground.chain }, { on := 0, ground := Ground.phase }, { on := 1, ground := Ground.phase }, { on := 2, ground := Ground.phase }, { on := 3, ground := Ground.phase }, { on := 4, ground := Ground.phase }, { on := 5, ground := Ground.phase }], guard := none }) (v := ?_) rfl (by kernel_rfl) (by kernel_rfl) (by kernel_rfl) (fun _ _ _ h => h) (Or.inl ⟨by rfl, ?_⟩) (by assumption) ?_
    rotate_left
    · (intro w hSw; (try dsimp only at hSw); go_simp; first | done | with_reducible rfl)
    try simp only [Act.put, List.setIfInBounds_toArray, List.set_cons_zero, List.set_cons_succ]
    refine wpAnyH_done (by kernel_rfl) ?_ _
    clear k1 k2 hHeld
    go_wp2
    refine bodyPost_ret (v := .agg #[.int .i64 l, .int .i64 (h - (h - l) % (m * magA n)), .int .i64 (m * magA n), .bool false]) (by simp [results, Try.results118, go_sem, *]) rfl ⟨rfl, ?_⟩
    repeat (first | exact Below.refl _ _ | refine Below.alloc ?_ (by simp; try omega) _ | refine Below.setCell ?_ (by simp; try omega) _ | refine Below.drew ?_)
  · rw [hq] at hd
    have E := Lib.hid (show byLo l h m dn n = l + (h - l) % (m * magA n) ∧ byHi l h m dn n = h from ⟨by unfold byLo; rw [hq]; rfl, by unfold byHi; rw [hq]; rfl⟩)
    rw [E.out.1, E.out.2]
    have hd' := hd.symm
    clear hq hd
    go_enter Try.func118, Try.ntmps118
    go_wp2_with fail
    refine wp_region_held_drew (S := (fun w' => w'.cell? ⟨w.heap.size, 0, none⟩ = some (.int .i64 l) ∧ w'.cell? ⟨w.heap.size, 1, none⟩ = some (.int .i64 h) ∧ w'.cell? ⟨w.heap.size, 2, none⟩ = some (.int .i64 m) ∧ w'.cell? ⟨b, o, none⟩ = some (.int .i64 n))) (by kernel_rfl) ?_ (fun hHeld => ?_)
    · first | go_keep
    refine wpAnyH_take (i := 0) (oi := { dst := some 9, op := Op.fieldAddr 102 (Operand.tmp 2) 2, type := 0, pos := "span.go:124", after := #[], guard := none }) (v := ?_) rfl (by kernel_rfl) (by kernel_rfl) (by kernel_rfl) (fun _ _ _ h => h) (Or.inl ⟨by rfl, ?_⟩) (by assumption) ?_
    rotate_left
    · (intro w hSw; (try dsimp only at hSw); go_simp; first | done | with_reducible rfl)
    try simp only [Act.put, List.setIfInBounds_toArray, List.set_cons_zero, List.set_cons_succ]
    refine wpAnyH_take (i := 1) (oi := { dst := some 10, op := Op.load 3 (Operand.tmp 9), type := 3, pos := "span.go:124", after := #[{ on := 0, ground := Ground.data }], guard := none }) (v := ?_) rfl (by kernel_rfl) (by kernel_rfl) (by kernel_rfl) (fun _ _ _ h => h) (Or.inl ⟨by rfl, ?_⟩) (by assumption) ?_
    rotate_left
    · (intro w hSw; (try dsimp only at hSw); go_simp; first | done | with_reducible rfl)
    try simp only [Act.put, List.setIfInBounds_toArray, List.set_cons_zero, List.set_cons_succ]
    refine wpAnyH_take (i := 2) (oi := { dst := some 11, op := Op.load 3 (Operand.tmp 1), type := 3, pos := "span.go:124", after := #[], guard := none }) (v := ?_) rfl (by kernel_rfl) (by kernel_rfl) (by kernel_rfl) (fun _ _ _ h => h) (Or.inl ⟨by rfl, ?_⟩) (by assumption) ?_
    rotate_left
    · (intro w hSw; (try dsimp only at hSw); go_simp; first | done | with_reducible rfl)
    try simp only [Act.put, List.setIfInBounds_toArray, List.set_cons_zero, List.set_cons_succ]
    refine wpAnyH_ready (rs := [3]) (by kernel_rfl) (by simp) ?_
    refine AllReadyH.cons (o := { dst := some 12, op := Op.call { callee := Callee.value (Operand.func 104), args := #[Operand.tmp 11], argTypes := #[3] }, type := 99, pos := "span.go:124", after := #[{ on := 2, ground := Ground.data }], guard := none }) rfl (fun K hK => ?_) AllReadyH.nil
    go_simp
    refine (magnitude_any _ _ (by omega) (by omega)).mono ?_
    rintro e w' ⟨rfl, rfl⟩
    go_wp2_with fail
    refine hK.out _ _ ?_ (fun hHeld3 => ?_)
    · first | go_keep
    clear hK K hHeld
    have hHeld := hHeld3
    clear hHeld3
    try simp only [Act.put, List.setIfInBounds_toArray, List.set_cons_zero, List.set_cons_succ]
    refine wpAnyH_take (i := 4) (oi := { dst := some 13, op := Op.convert 99 3 (Operand.tmp 12), type := 3, pos := "span.go:124", after := #[{ on := 3, ground := Ground.data }], guard := none }) (v := ?_) rfl (by kernel_rfl) (by kernel_rfl) (by kernel_rfl) (fun _ _ _ h => h) (Or.inl ⟨by rfl, ?_⟩) (by assumption) ?_
    rotate_left
    · (intro w hSw; (try dsimp only at hSw); go_simp; first | done | with_reducible rfl)
    try simp only [Act.put, List.setIfInBounds_toArray, List.set_cons_zero, List.set_cons_succ]
    refine wpAnyH_take (i := 5) (oi := { dst := some 14, op := Op.binOp BinOp.mul 3 (Operand.tmp 10) (Operand.tmp 13) 3, type := 3, pos := "span.go:124", after := #[{ on := 1, ground := Ground.data }, { on := 4, ground := Ground.data }], guard := none }) (v := ?_) rfl (by kernel_rfl) (by kernel_rfl) (by kernel_rfl) (fun _ _ _ h => h) (Or.inl ⟨by rfl, ?_⟩) (by assumption) ?_
    rotate_left
    · (intro w hSw; (try dsimp only at hSw); go_simp; first | done | with_reducible rfl)
    try simp only [Act.put, List.setIfInBounds_toArray, List.set_cons_zero, List.set_cons_succ]
    refine wpAnyH_take (i := 6) (oi := { dst := some 5, op := Op.assign (Operand.tmp 14), type := 3, pos := "span.go:124", after := #[{ on := 5, ground := Ground.data }, { on := 3, ground := Ground.chain }, { on := 0, ground := Ground.phase }, { on := 1, ground := Ground.phase }, { on := 2, ground := Ground.phase }, { on := 3, ground := Ground.phase }, { on := 4, ground := Ground.phase }, { on := 5, ground := Ground.phase }], guard := none }) (v := ?_) rfl (by kernel_rfl) (by kernel_rfl) (by kernel_rfl) (fun _ _ _ h => h) (Or.inl ⟨by rfl, ?_⟩) (by assumption) ?_
    rotate_left
    · (intro w hSw; (try dsimp only at hSw); go_simp; first | done | with_reducible rfl)
    try simp only [Act.put, List.setIfInBounds_toArray, List.set_cons_zero, List.set_cons_succ]
    refine wpAnyH_done (by kernel_rfl) ?_ _
    clear k1 k2 hHeld
    go_wp2
    refine bodyPost_ret (v := .agg #[.int .i64 (l + (h - l) % (m * magA n)), .int .i64 h, .int .i64 (m * magA n), .bool true]) (by simp [results, Try.results118, go_sem, *]) rfl ⟨rfl, ?_⟩
    repeat (first | exact Below.refl _ _ | refine Below.alloc ?_ (by simp; try omega) _ | refine Below.setCell ?_ (by simp; try omega) _ | refine Below.drew ?_)
end Go.Proofs.Ytmelknodmbdhpaa
