/-
  Part 3: IrD, IrE, IrF.
-/
import Derived.Test.YtcpeailodgoilaaAg2
import Derived.BigQuiet
import Derived.Deep.CutBlock
import Derived.Deep.DeepCutAuto
import Derived.Deep.DeepFit
import Derived.Deep.DrawnRows
import Derived.Deep.LoopGhost
import Derived.Deep.QuietTactic
import Derived.Deep.RegionHeld3
import Derived.Deep.RegionWith
import Derived.Laws.AppendOwn
import Derived.Laws.AppendOwnNone
import Derived.Lib.AppendZerosOnto
import Derived.Lib.Hide
import Derived.Maps.AppendAt
import Derived.OwnWalk
import Derived.Shelf.Abstract
import Derived.WalkKit
import Derived.WalkLawsBesides
import Derived.WalkSpells
namespace Go.Proofs.Ytcpeailodgoilaa
open Go.RowKit
theorem i_own_base {w : World} {base base' : Nat} {e : TypeId} {size : Nat} {v : Value} {n : Nat} {xs : List Value} (h : w.ownsRow base e size v n xs) (hb : base' ≤ base) : w.ownsRow base' e size v n xs := by
  refine ⟨h.1, ?_⟩
  rcases h.2 with hn | ⟨g, cap, cur, hv, hg, rest⟩
  · exact Or.inl hn
  · exact Or.inr ⟨g, cap, cur, hv, Nat.le_trans hb hg, rest⟩
/-- the error of an operation -/
def combE (keep : Bool → Bool → Bool) (A B : List Bs) : Int := if ckE A = 0 then (if ckE B = 0 then (if 5000 < (mg keep A B).length then 5 else 0) else ckE B) else ckE A
/-- what an operation returns -/
def CombRet (keep : Bool → Bool → Bool) (A B : List Bs) (w : World) : Ending → World → Prop := fun e w' => ∃ (v : Value) (er : Int), e = .returned (.tuple #[v, .int .i64 er]) ∧ Below w.heap.size w w' ∧
  Hid (er = combE keep A B ∧ ((er = 0 ∧ w'.ownsRow w.heap.size 9 1 v (mg keep A B).length ((mg keep A B).map Value.string)) ∨ (¬ er = 0 ∧ v = .slice none 0 0)))
set_option maxRecDepth 100000 in
set_option maxHeartbeats 3200000 in
theorem combine_any (g : Nat) (eg : ∀ args w, (callFunc g args).run Try.prog w = .ok (.enter g args) w) (keep : Bool → Bool → Bool) (hk : Hid (∀ x y w, Calls Try.prog g #[.bool x, .bool y] w fun e w' => e = .returned (.bool (keep x y)) ∧ w = w'))
    (va vb : Value) (A B : List Bs) (w : World) (hra : Rs w va A) (hrb : Rs w vb B) (hn : A.length + B.length ≤ 100000) :
    Calls Try.prog 193 #[va, vb, .func (.func g) #[] #[]] w (CombRet keep A B w) := by
  have HA := Lib.hid hra
  have HB := Lib.hid hrb
  obtain ⟨a0, c0, rfl, _, _⟩ := hra
  obtain ⟨a1, c1, rfl, _, _⟩ := hrb
  go_enter Try.func193, Try.ntmps193
  go_wp2_with fail
  refine (checkKeys_any _ A _ HA.out (by omega)).mono ?_
  rintro e w' ⟨rfl, rfl⟩
  by_cases ca : ckE A = 0
  · have CA := Lib.hid ca
    rw [ca]
    clear ca
    go_wp2_with fail
    refine (checkKeys_any _ B _ HB.out (by omega)).mono ?_
    rintro e w' ⟨rfl, rfl⟩
    by_cases cb : ckE B = 0
    · have CB := Lib.hid cb
      rw [cb]
      clear cb
      go_wp2_with fail
      refine (merge_any g eg keep hk _ _ A B _ HA.out HB.out hn).mono ?_
      rintro e w1 ⟨v, rfl, ow, hb⟩
      have HW := Lib.hid hb
      clear hb
      obtain ⟨lo, lc, rfl⟩ := i_own_slice ow.out
      by_cases big : 5000 < (mg keep A B).length
      · have b' : (5000 : Int) < ((mg keep A B).length : Int) := by omega
        have E : Hid (combE keep A B = 5) := Lib.hid (by unfold combE; rw [if_pos CA.out, if_pos CB.out, if_pos big])
        clear big
        generalize (mg keep A B).length = n at *
        go_wp2
        exact bodyPost_ret (v := .tuple #[.slice none 0 0, .int .i64 5]) (by simp [results, Try.results193, go_sem, *]) rfl ⟨_, _, rfl, HW.out, Lib.hid ⟨E.out.symm, .inr ⟨by decide, rfl⟩⟩⟩
      · have b' : ¬ (5000 : Int) < ((mg keep A B).length : Int) := by omega
        have E : Hid (combE keep A B = 0) := Lib.hid (by unfold combE; rw [if_pos CA.out, if_pos CB.out, if_neg big])
        have OW := Lib.hid ow.out
        clear big ow
        generalize hN : (mg keep A B).length = n at *
        have HN := Lib.hid hN
        clear hN
        go_wp2
        exact bodyPost_ret (v := .tuple #[.slice lo n lc, .int .i64 0]) (by simp [results, Try.results193, go_sem, *]) rfl ⟨_, _, rfl, HW.out, Lib.hid ⟨E.out.symm, .inl ⟨rfl, by rw [HN.out]; exact OW.out⟩⟩⟩
    · have E : Hid (combE keep A B = ckE B) := Lib.hid (by unfold combE; rw [if_pos CA.out, if_neg cb])
      generalize ckE B = er at *
      have NE := Lib.hid cb
      have c2 : (er != 0) = true := by simp [cb]
      go_wp2
      exact bodyPost_ret (v := .tuple #[.slice none 0 0, .int .i64 er]) (by simp [results, Try.results193, go_sem, *]) rfl ⟨_, _, rfl, Below.refl _ _, Lib.hid ⟨E.out.symm, .inr ⟨NE.out, rfl⟩⟩⟩
  · have E : Hid (combE keep A B = ckE A) := Lib.hid (by unfold combE; rw [if_neg ca])
    generalize ckE A = er at *
    have NE := Lib.hid ca
    have c2 : (er != 0) = true := by simp [ca]
    go_wp2
    exact bodyPost_ret (v := .tuple #[.slice none 0 0, .int .i64 er]) (by simp [results, Try.results193, go_sem, *]) rfl ⟨_, _, rfl, Below.refl _ _, Lib.hid ⟨E.out.symm, .inr ⟨NE.out, rfl⟩⟩⟩
theorem rs_one (k : Bs) (t : TypeId) (w : World) : Rs (w.alloc (.cells #[.string k] t)) (.slice (some ⟨w.heap.size, 0, none⟩) 1 1) [k] := by
  refine ⟨_, 1, rfl, by simp, .inr ⟨w.heap.size, 0, rfl, by simp, fun j s hs => ?_⟩⟩
  have : j = 0 := by have := (List.getElem?_eq_some_iff.1 hs).1; simp at this; omega
  subst this
  simp at hs
  subst hs
  exact cell_one_new w (.string k) t 0 _ rfl
/-- what change returns -/
def ChgRet (keep : Bool → Bool → Bool) (A : List Bs) (k : Bs) (w : World) : Ending → World → Prop := fun e w' => ∃ (v : Value) (b : Bool) (er : Int), e = .returned (.tuple #[v, .bool b, .int .i64 er]) ∧ Below w.heap.size w w' ∧
  Hid (er = combE keep A [k] ∧ ((er = 0 ∧ b = decide ((mg keep A [k]).length ≠ A.length) ∧ w'.ownsRow w.heap.size 9 1 v (mg keep A [k]).length ((mg keep A [k]).map Value.string)) ∨ (¬ er = 0 ∧ b = false ∧ v = .slice none 0 0)))
set_option maxRecDepth 100000 in
set_option maxHeartbeats 3200000 in
theorem change_any (g : Nat) (eg : ∀ args w, (callFunc g args).run Try.prog w = .ok (.enter g args) w) (keep : Bool → Bool → Bool) (hk : Hid (∀ x y w, Calls Try.prog g #[.bool x, .bool y] w fun e w' => e = .returned (.bool (keep x y)) ∧ w = w'))
    (va : Value) (A : List Bs) (k : Bs) (w : World) (hra : Rs w va A) (hn : A.length ≤ 10000) :
    Calls Try.prog 186 #[va, .string k, .func (.func g) #[] #[]] w (ChgRet keep A k w) := by
  have HA := Lib.hid hra
  obtain ⟨a0, c0, rfl, _, _⟩ := hra
  go_enter Try.func186, Try.ntmps186
  go_wp2_with fail
  have HA1 := HA.out.keep ((Below.refl _ w).alloc (Nat.le_refl _) (.cells #[.string k] 9))
  have HK1 := rs_one k 9 w
  refine (combine_any g eg keep hk _ _ A [k] _ HA1 HK1 (by simp; omega)).mono ?_
  rintro e w1 ⟨v, er, rfl, hb, hE⟩
  have HW : Hid (Below w.heap.size w w1) := Lib.hid (((Below.refl _ w).alloc (Nat.le_refl _) _).trans (hb.mono (by simp)))
  clear hb
  obtain ⟨e1, h⟩ := hE.out
  rcases h with ⟨z, ow⟩ | ⟨z, rfl⟩
  · subst z
    obtain ⟨lo, lc, rfl⟩ := i_own_slice ow
    have OW := Lib.hid (i_own_base ow (show w.heap.size ≤ _ by simp))
    have E := Lib.hid e1
    clear ow e1 hE
    generalize hN : (mg keep A [k]).length = n at *
    have HN := Lib.hid hN
    clear hN
    by_cases c : n = A.length
    · have C := Lib.hid c
      have c1 : ((n : Int) != (A.length : Int)) = false := by simp [c]
      subst c
      go_wp2
      exact bodyPost_ret (v := .tuple #[.slice lo A.length lc, .bool false, .int .i64 0]) (by simp [results, Try.results186, go_sem, *]) rfl ⟨_, _, _, rfl, HW.out, Lib.hid ⟨E.out, .inl ⟨rfl, by rw [HN.out]; simp, by rw [HN.out]; exact OW.out⟩⟩⟩
    · have C := Lib.hid c
      have c1 : ((n : Int) != (A.length : Int)) = true := by simp; omega
      have c2 : ¬ (n : Int) = (A.length : Int) := by omega
      go_wp2
      exact bodyPost_ret (v := .tuple #[.slice lo n lc, .bool true, .int .i64 0]) (by simp [results, Try.results186, go_sem, *]) rfl ⟨_, _, _, rfl, HW.out, Lib.hid ⟨E.out, .inl ⟨rfl, by rw [HN.out]; simp [C.out], by rw [HN.out]; exact OW.out⟩⟩⟩
  · have NE := Lib.hid z
    have E := Lib.hid e1
    have c2 : (er == 0) = false := by simp [z]
    clear e1 hE
    go_wp2
    exact bodyPost_ret (v := .tuple #[.slice none 0 0, .bool false, .int .i64 er]) (by simp [results, Try.results186, go_sem, *]) rfl ⟨_, _, _, rfl, HW.out, Lib.hid ⟨E.out, .inr ⟨NE.out, rfl, rfl⟩⟩⟩
set_option maxRecDepth 100000 in
theorem Add_any (va : Value) (A : List Bs) (k : Bs) (w : World) (hra : Rs w va A) (hn : A.length ≤ 10000) :
    Calls Try.prog 109 #[va, .string k] w (ChgRet kOr A k w) := by
  have HA := Lib.hid hra
  obtain ⟨a0, c0, rfl, _, _⟩ := hra
  go_enter Try.func109, Try.ntmps109
  go_wp2_with fail
  refine (change_any 187 (enters_of Try.func187 (by kernel_rfl) rfl) kOr (Lib.hid fun x y w => keepAdd_any x y w) _ A k _ HA.out hn).mono ?_
  rintro e w1 ⟨v, b, er, rfl, hb, hE⟩
  have HW := Lib.hid hb
  clear hb
  go_wp2
  exact bodyPost_ret (v := .tuple #[v, .bool b, .int .i64 er]) (by simp [results, Try.results109, go_sem, *]) rfl ⟨_, _, _, rfl, HW.out, hE⟩
set_option maxRecDepth 100000 in
theorem Remove_any (va : Value) (A : List Bs) (k : Bs) (w : World) (hra : Rs w va A) (hn : A.length ≤ 10000) :
    Calls Try.prog 112 #[va, .string k] w (ChgRet kLess A k w) := by
  have HA := Lib.hid hra
  obtain ⟨a0, c0, rfl, _, _⟩ := hra
  go_enter Try.func112, Try.ntmps112
  go_wp2_with fail
  refine (change_any 192 (enters_of Try.func192 (by kernel_rfl) rfl) kLess (Lib.hid fun x y w => keepRem_any x y w) _ A k _ HA.out hn).mono ?_
  rintro e w1 ⟨v, b, er, rfl, hb, hE⟩
  have HW := Lib.hid hb
  clear hb
  go_wp2
  exact bodyPost_ret (v := .tuple #[v, .bool b, .int .i64 er]) (by simp [results, Try.results112, go_sem, *]) rfl ⟨_, _, _, rfl, HW.out, hE⟩
set_option maxRecDepth 100000 in
theorem Join_any (va vb : Value) (A B : List Bs) (w : World) (hra : Rs w va A) (hrb : Rs w vb B) (hn : A.length + B.length ≤ 100000) :
    Calls Try.prog 114 #[va, vb] w (CombRet kOr A B w) := by
  have HA := Lib.hid hra
  have HB := Lib.hid hrb
  obtain ⟨a0, c0, rfl, _, _⟩ := hra
  obtain ⟨a1, c1, rfl, _, _⟩ := hrb
  go_enter Try.func114, Try.ntmps114
  go_wp2_with fail
  refine (combine_any 194 (enters_of Try.func194 (by kernel_rfl) rfl) kOr (Lib.hid fun x y w => keepJoin_any x y w) _ _ A B _ HA.out HB.out hn).mono ?_
  rintro e w1 ⟨v, er, rfl, hb, hE⟩
  have HW := Lib.hid hb
  clear hb
  go_wp2
  exact bodyPost_ret (v := .tuple #[v, .int .i64 er]) (by simp [results, Try.results114, go_sem, *]) rfl ⟨_, _, rfl, HW.out, hE⟩
set_option maxRecDepth 100000 in
theorem Meet_any (va vb : Value) (A B : List Bs) (w : World) (hra : Rs w va A) (hrb : Rs w vb B) (hn : A.length + B.length ≤ 100000) :
    Calls Try.prog 116 #[va, vb] w (CombRet kAnd A B w) := by
  have HA := Lib.hid hra
  have HB := Lib.hid hrb
  obtain ⟨a0, c0, rfl, _, _⟩ := hra
  obtain ⟨a1, c1, rfl, _, _⟩ := hrb
  go_enter Try.func116, Try.ntmps116
  go_wp2_with fail
  refine (combine_any 196 (enters_of Try.func196 (by kernel_rfl) rfl) kAnd (Lib.hid fun x y w => keepMeet_any x y w) _ _ A B _ HA.out HB.out hn).mono ?_
  rintro e w1 ⟨v, er, rfl, hb, hE⟩
  have HW := Lib.hid hb
  clear hb
  go_wp2
  exact bodyPost_ret (v := .tuple #[v, .int .i64 er]) (by simp [results, Try.results116, go_sem, *]) rfl ⟨_, _, rfl, HW.out, hE⟩
set_option maxRecDepth 100000 in
theorem Less_any (va vb : Value) (A B : List Bs) (w : World) (hra : Rs w va A) (hrb : Rs w vb B) (hn : A.length + B.length ≤ 100000) :
    Calls Try.prog 118 #[va, vb] w (CombRet kLess A B w) := by
  have HA := Lib.hid hra
  have HB := Lib.hid hrb
  obtain ⟨a0, c0, rfl, _, _⟩ := hra
  obtain ⟨a1, c1, rfl, _, _⟩ := hrb
  go_enter Try.func118, Try.ntmps118
  go_wp2_with fail
  refine (combine_any 197 (enters_of Try.func197 (by kernel_rfl) rfl) kLess (Lib.hid fun x y w => keepLess_any x y w) _ _ A B _ HA.out HB.out hn).mono ?_
  rintro e w1 ⟨v, er, rfl, hb, hE⟩
  have HW := Lib.hid hb
  clear hb
  go_wp2
  exact bodyPost_ret (v := .tuple #[v, .int .i64 er]) (by simp [results, Try.results118, go_sem, *]) rfl ⟨_, _, rfl, HW.out, hE⟩
set_option maxRecDepth 100000 in
theorem Odd_any (va vb : Value) (A B : List Bs) (w : World) (hra : Rs w va A) (hrb : Rs w vb B) (hn : A.length + B.length ≤ 100000) :
    Calls Try.prog 120 #[va, vb] w (CombRet kOdd A B w) := by
  have HA := Lib.hid hra
  have HB := Lib.hid hrb
  obtain ⟨a0, c0, rfl, _, _⟩ := hra
  obtain ⟨a1, c1, rfl, _, _⟩ := hrb
  go_enter Try.func120, Try.ntmps120
  go_wp2_with fail
  refine (combine_any 198 (enters_of Try.func198 (by kernel_rfl) rfl) kOdd (Lib.hid fun x y w => keepOdd_any x y w) _ _ A B _ HA.out HB.out hn).mono ?_
  rintro e w1 ⟨v, er, rfl, hb, hE⟩
  have HW := Lib.hid hb
  clear hb
  go_wp2
  exact bodyPost_ret (v := .tuple #[v, .int .i64 er]) (by simp [results, Try.results120, go_sem, *]) rfl ⟨_, _, rfl, HW.out, hE⟩
end Go.Proofs.Ytcpeailodgoilaa
namespace Go.Proofs.Ytcpeailodgoilaa
open Go.RowKit
/-- whether lists of keys are few and short -/
def fkB (VL : List (Value × List Bs)) : Bool := VL.all fun p => decide (p.2.length ≤ 100) && !anyLong p.2
set_option maxRecDepth 100000 in
set_option maxHeartbeats 3200000 in
theorem fewKeys_any (g o cap : Nat) (VL : List (Value × List Bs)) (w : World) (hs : Hid (∀ (j : Nat) (p : Value × List Bs), VL[j]? = some p → w.cell? ⟨g, o + j, none⟩ = some p.1 ∧ Rs w p.1 p.2)) (hn : VL.length ≤ 1000) :
    Calls Try.prog 105 #[.slice (some ⟨g, o, none⟩) VL.length cap] w fun e w' => e = .returned (.bool (fkB VL)) ∧ w = w' := by
  go_enter Try.func105, Try.ntmps105
  go_wp2_with fail
  go_loopg [4, 7] (VL.length + 1) (fun gh _ v7 wr => ∃ j : Nat, v7 = .int .i64 j ∧ (j ≤ VL.length ∧ VL.length - j < gh) ∧ Hid (fkB (VL.take j) = true) ∧ wr = w)
  case atStart => exact ⟨0, rfl, ⟨by omega, by omega⟩, Lib.hid rfl, rfl⟩
  case round =>
    obtain ⟨j, rfl, ⟨j0, jg⟩, hE, rfl⟩ := hrel
    have KG := Lib.hid jg
    clear jg
    by_cases hj : j < VL.length
    · obtain ⟨⟨v, L⟩, hp⟩ : ∃ p, VL[j]? = some p := ⟨VL[j], List.getElem?_eq_getElem hj⟩
      obtain ⟨p0, r0⟩ := hs.out j _ hp
      have FS := Lib.hid hp
      have R0 := Lib.hid r0
      have jw : IntKind.i64.wrap ((j : Int) + 1) = (j : Int) + 1 := IntWalk.i64_in _ (by omega)
      dsimp only at p0 r0
      obtain ⟨ao, cp, rfl, _, _⟩ := r0
      clear hp
      by_cases z : 100 < L.length
      · have z' : (100 : Int) < (L.length : Int) := by omega
        have Eq : Hid (fkB VL = false) := Lib.hid (by
          unfold fkB
          rw [List.all_eq_false]
          exact ⟨_, List.mem_of_getElem? FS.out, by simp; omega⟩)
        clear z
        go_wp2
        exact bodyPost_ret (v := .bool false) (by simp [results, Try.results105, go_sem, *]) rfl ⟨by rw [Eq.out], rfl⟩
      · have z' : ¬ (100 : Int) < (L.length : Int) := by omega
        have Z := Lib.hid z
        clear z
        go_wp2_with fail
        refine (cfLong_any _ L _ R0.out (by have := Z.out; omega)).mono ?_
        rintro e w' ⟨rfl, rfl⟩
        cases al : anyLong L
        · have Eq : Hid (fkB (VL.take (j + 1)) = true) := Lib.hid (by
            have h := hE.out
            unfold fkB at h ⊢
            rw [List.take_add_one, FS.out, List.all_append, h]
            simp [al]
            have := Z.out
            omega)
          clear hE
          go_wp2_with fail
          go_roundg (VL.length - j)
          case measure => exact KG.out
          case rel => exact ⟨j + 1, by go_num, ⟨by omega, by omega⟩, Eq, rfl⟩
        · have Eq : Hid (fkB VL = false) := Lib.hid (by
            unfold fkB
            rw [List.all_eq_false]
            exact ⟨_, List.mem_of_getElem? FS.out, by simp [al]⟩)
          go_wp2
          exact bodyPost_ret (v := .bool false) (by simp [results, Try.results105, go_sem, *]) rfl ⟨by rw [Eq.out], rfl⟩
    · have Eq : Hid (fkB VL = true) := Lib.hid (by
        have h := hE.out
        rwa [List.take_of_length_le (by omega)] at h)
      go_wp2
      exact bodyPost_ret (v := .bool true) (by simp [results, Try.results105, go_sem, *]) rfl ⟨by rw [Eq.out], rfl⟩
set_option maxRecDepth 100000 in
set_option maxHeartbeats 3200000 in
theorem equalK_any (va vb : Value) (L M : List Bs) (w : World) (hra : Rs w va L) (hrb : Rs w vb M) (hn : L.length ≤ 100000 ∧ M.length ≤ 100000) :
    Calls Try.prog 111 #[va, vb] w fun e w' => ∃ b : Bool, e = .returned (.bool b) ∧ Hid (b = true ↔ L = M) ∧ Below w.heap.size w w' := by
  obtain ⟨ao, ca, rfl, _, qa⟩ := hra
  obtain ⟨bo, cb, rfl, _, qb⟩ := hrb
  have QA := Lib.hid qa
  have QB := Lib.hid qb
  clear qa qb
  go_enter Try.func111, Try.ntmps111
  by_cases ne : L.length = M.length
  · have NE := Lib.hid ne
    rw [← ne]
    clear ne
    go_wp2_with fail
    go_loopg [5, 13] (L.length + 1) (fun gh _ v13 wr => ∃ j : Nat, v13 = .int .i64 j ∧ (j ≤ L.length ∧ L.length - j < gh) ∧ Hid (L.take j = M.take j) ∧ Hid (Below w.heap.size w wr))
    case atStart => exact ⟨0, rfl, ⟨by omega, by omega⟩, Lib.hid rfl, Lib.hid (Below.refl _ _)⟩
    case round =>
      obtain ⟨j, rfl, ⟨j0, jg⟩, hE, HB⟩ := hrel
      have KG := Lib.hid jg
      clear jg
      by_cases hj : j < L.length
      · obtain ⟨x, hx⟩ : ∃ x, L[j]? = some x := ⟨L[j], List.getElem?_eq_getElem hj⟩
        obtain ⟨y, hy⟩ : ∃ y, M[j]? = some y := ⟨M[j]'(by have := NE.out; omega), List.getElem?_eq_getElem _⟩
        obtain ⟨b1, o1, rfl, z1, r1⟩ := QA.out.resolve_left (by omega)
        obtain ⟨b2, o2, rfl, z2, r2⟩ := QB.out.resolve_left (by have := NE.out; omega)
        have p0 : wr.cell? ⟨b1, o1 + j, none⟩ = some (.string x) := (HB.out.cell (p := ⟨b1, o1 + j, none⟩) z1).trans (r1 j x hx)
        have q0 : wr.cell? ⟨b2, o2 + j, none⟩ = some (.string y) := (HB.out.cell (p := ⟨b2, o2 + j, none⟩) z2).trans (r2 j y hy)
        have FX := Lib.hid hx
        have FY := Lib.hid hy
        clear hx hy r1 r2
        by_cases z : x = y
        · have z' : (x.toList == y.toList) = true := (seq_iff x y).2 z
          have z2' : (x.toList != y.toList) = false := by unfold bne; rw [z']; rfl
          have E2 : Hid (L.take (j + 1) = M.take (j + 1)) := Lib.hid (by rw [List.take_add_one, List.take_add_one, hE.out, FX.out, FY.out, z])
          clear z hE
          go_wp2_with fail
          go_quiet (fail)
          go_wp2
          go_roundg (L.length - j)
          case measure => exact KG.out
          case rel => exact ⟨j + 1, by go_num, ⟨by omega, by omega⟩, E2, Lib.hid (HB.out.trans (below_drewN (Below.refl _ _) _))⟩
        · have z' : (x.toList == y.toList) = false := by
            have : ¬ (x.toList == y.toList) = true := fun h => z ((seq_iff x y).1 h)
            simpa using this
          have E2 : Hid (¬ L = M) := Lib.hid (fun h => by
            have a := FX.out
            rw [h, FY.out] at a
            cases a
            exact z rfl)
          clear z hE
          go_wp2_with fail
          go_quiet (fail)
          go_wp2
          exact bodyPost_ret (v := .bool false) (by simp [results, Try.results111, go_sem, *]) rfl ⟨_, rfl, Lib.hid ⟨(fun h => nomatch h), fun h => absurd h E2.out⟩, HB.out.trans (below_drewN (Below.refl _ _) _)⟩
      · have E2 : Hid (L = M) := Lib.hid (by
          have h := hE.out
          rwa [List.take_of_length_le (by omega), List.take_of_length_le (by have := NE.out; omega)] at h)
        go_wp2
        exact bodyPost_ret (v := .bool true) (by simp [results, Try.results111, go_sem, *]) rfl ⟨_, rfl, Lib.hid ⟨fun _ => E2.out, fun _ => rfl⟩, HB.out⟩
  · have c1 : ((L.length : Int) != (M.length : Int)) = true := by simp; omega
    have c2 : ¬ (L.length : Int) = (M.length : Int) := by omega
    have NE := Lib.hid ne
    clear ne
    go_wp2
    exact bodyPost_ret (v := .bool false) (by simp [results, Try.results111, go_sem, *]) rfl ⟨_, rfl, Lib.hid ⟨(fun h => nomatch h), fun h => absurd (congrArg List.length h) NE.out⟩, Below.refl _ _⟩
end Go.Proofs.Ytcpeailodgoilaa
namespace Go.Proofs.Ytcpeailodgoilaa
open Go.RowKit
set_option maxRecDepth 100000 in
set_option maxHeartbeats 3200000 in
theorem growS_any (n : Nat) (w : World) (hn : n ≤ 5000) :
    Calls Try.prog 200 #[.slice none 0 0, .int .i64 n] w fun e w' => ∃ v, e = .returned v ∧ Hid (w'.ownsRow w.heap.size 9 1 v 0 []) ∧ Below w.heap.size w w' := by
  obtain ⟨i0, hi, hz0, hz1, hz2⟩ := info_parts Try.infoStr
  by_cases n0 : n = 0
  · subst n0
    go_enter Try.func200, Try.ntmps200
    go_wp2
    exact bodyPost_ret (v := .slice none 0 0) (by simp [results, Try.results200, go_sem, *]) rfl ⟨_, rfl, World.ownsRow_nil _ _ _ _, Below.refl _ _⟩
  · have hrz : ∀ ty, (Builtin.append_ #[99, 3] ty #[.slice none 0 0, .int .i64 (n : Int)]).run Try.prog w =
        .ok (.slice (some ⟨w.heap.size, 0, none⟩) n (grownCap w n 0 9)) (w.drew.alloc (.cells (#[] ++ Builtin.zeroCells (Value.string ⟨#[]⟩).cells n ++ Builtin.zeroCells (Value.string ⟨#[]⟩).cells (grownCap w n 0 9 - n)) 9)) := fun ty => by
      have h := Lib.run_append_grow_zeros (P := Try.prog) w 99 3 ty 9 i0 (.string ⟨#[]⟩) .i64 .i64 Try.underlying99 Try.underlying3 hi hz0 none 0 0 [] (by rw [hz1]; exact run_firstCells_none w.drew 1 0 0 0) n (by omega) (by omega) (by omega) (by omega) (by rw [hz2]; omega) (by rw [hz2]; exact growslice_fits (by omega) (by omega))
      simpa using h
    have hG := grownCap_ge w n 0 9
    have hG2 := grownCap_le_maxLen w n 0 9 (by unfold maxLen; omega)
    generalize grownCap w n 0 9 = G at hrz hG hG2
    have g63 : G ≤ 9223372036854775807 := by unfold maxLen at hG2; omega
    have own : Hid ((w.alloc (.cells (Builtin.zeroCells #[Value.string ⟨#[]⟩] n ++ Builtin.zeroCells #[Value.string ⟨#[]⟩] (G - n)) 9)).drew.ownsRow w.heap.size 9 1 (.slice (some ⟨w.heap.size, 0, none⟩) 0 G) 0 []) := Lib.hid (World.ownsRow_made w _ G (Nat.le_refl _) hG2 (by simp [size_zeroCells]; omega))
    have bel : Hid (Below w.heap.size w (w.alloc (.cells (Builtin.zeroCells #[Value.string ⟨#[]⟩] n ++ Builtin.zeroCells #[Value.string ⟨#[]⟩] (G - n)) 9)).drew) := Lib.hid ((Below.refl _ w).alloc (Nat.le_refl _) _).drew
    have n1 : ¬ ((n : Int) < 0) := by omega
    have n2 : (0 : Int) < n := by omega
    have n3 : 0 < n := by omega
    go_enter Try.func200, Try.ntmps200
    go_wp2_with (at_builtin; refine Lib.wpList_append_run _ rfl _ _ _ _ rfl _ _ rfl rfl _ _ (hrz _) ?_)
    exact bodyPost_ret (v := .slice (some ⟨w.heap.size, 0, none⟩) 0 G) (by simp [results, Try.results200, go_sem, *]) rfl ⟨_, rfl, own, bel.out⟩
/-- the list that Concat has gathered behind k lists -/
def catS (xs ys : List Bs) (k : Nat) : List Bs := if k = 0 then [] else if k = 1 then xs else xs ++ ys
theorem Rs.news {w : World} {b o n c : Nat} {L : List Bs} (r : Rs w (.slice (some ⟨b, o, Option.none⟩) n c) L) : ∀ (j : Nat) (u : Value), (L.map Value.string)[j]? = some u → w.cell? ((⟨b, o, Option.none⟩ : Addr).add j) = some u := fun j u hu => by
  obtain ⟨ao, cap, e, _, h⟩ := r
  cases e
  have lt := (List.getElem?_eq_some_iff.1 hu).1
  rw [List.length_map] at lt
  obtain ⟨b', o', e, _, q⟩ := h.resolve_left (by omega)
  cases e
  rw [List.getElem?_map] at hu
  obtain ⟨s, hs, e⟩ := Option.map_eq_some_iff.1 hu
  subst e
  rw [Addr.add_lit]
  exact q j s hs
theorem Rs.addr {w : World} {v : Value} {L : List Bs} (r : Rs w v L) (hz : ∀ c, v = .slice Option.none 0 c → c = 0) : (v = .slice Option.none 0 0 ∧ L = []) ∨ (∃ a c, v = .slice (some a) L.length c ∧ ∀ (j : Nat) (u : Value), (L.map Value.string)[j]? = some u → w.cell? (a.add j) = some u) := by
  have r' := r
  obtain ⟨ao, cap, rfl, _, h⟩ := r
  cases ao with
  | none =>
    rcases h with h | ⟨b, o, e, _⟩
    · have z : L = [] := List.eq_nil_of_length_eq_zero h
      subst z
      have := hz cap rfl
      subst this
      exact .inl ⟨rfl, rfl⟩
    · cases e
  | some a =>
    refine .inr ⟨a, cap, rfl, ?_⟩
    rcases h with h | ⟨b, o, e, _⟩
    · have z : L = [] := List.eq_nil_of_length_eq_zero h
      subst z
      intro j u hu
      simp at hu
    · cases e
      exact r'.news
set_option maxRecDepth 100000 in
set_option maxHeartbeats 6400000 in
theorem concatS_any (va vb : Value) (b : Nat) (xs ys : List Bs) (w : World) (hb : b < w.heap.size) (ca : w.cell? ⟨b, 0, none⟩ = some va) (cb : w.cell? ⟨b, 1, none⟩ = some vb)
    (ha : Hid (Rs w va xs)) (hv : Hid (Rs w vb ys)) (za : Hid (∀ c, va = .slice none 0 c → c = 0)) (zb : Hid (∀ c, vb = .slice none 0 c → c = 0)) (hx : xs.length ≤ 1000) (hy : ys.length ≤ 1000) :
    Calls Try.prog 123 #[.slice (some ⟨b, 0, none⟩) 2 2] w (MgRet (xs ++ ys) w) := by
  obtain ⟨i0, hi, hz0, hz1, hz2⟩ := info_parts Try.infoStr
  go_enter Try.func123, Try.ntmps123
  go_upto_block 0 with fail
  go_cut [3] (fun s3 wx => s3 = .int .i64 ((xs.length + ys.length : Nat) : Int) ∧ wx = w)
  case first =>
    obtain ⟨ao, cap, rfl, _, _⟩ := ha.out
    obtain ⟨bo, cap', rfl, _, _⟩ := hv.out
    go_wp2_with fail
    go_loopg [3, 5, 11] 3 (fun gh v3 _ v11 wr => ∃ k : Nat, v11 = .int .i64 k ∧ (k ≤ 2 ∧ 2 - k < gh) ∧ v3 = .int .i64 ((catS xs ys k).length : Nat) ∧ wr = w)
    case atStart => exact ⟨0, rfl, ⟨by omega, by omega⟩, rfl, rfl⟩
    case round =>
      obtain ⟨k, rfl, ⟨k0, kg⟩, rfl, rfl⟩ := hrel
      have KG := Lib.hid kg
      clear kg
      obtain rfl | rfl | rfl : k = 0 ∨ k = 1 ∨ k = 2 := by omega
      · have e1 : Hid ((catS xs ys 1).length = xs.length) := Lib.hid rfl
        have e0 : (catS xs ys 0).length = 0 := rfl
        rw [e0]
        have j1 : IntKind.i64.wrap (0 + (xs.length : Int)) = (xs.length : Int) := by rw [Int.zero_add]; exact IntWalk.i64_in _ (by omega)
        have j2 : IntKind.i64.wrap ((xs.length : Int)) = (xs.length : Int) := IntWalk.i64_in _ (by omega)
        have j3 : ¬ ((xs.length : Int) < 0) := by omega
        go_wp2_with fail
        go_roundg 2
        case measure => have := KG.out; omega
        case rel => exact ⟨1, rfl, ⟨by omega, by omega⟩, by rw [e1.out], rfl⟩
      · have e1 : Hid ((catS xs ys 2).length = xs.length + ys.length) := Lib.hid (by simp [catS])
        have e0 : (catS xs ys 1).length = xs.length := rfl
        rw [e0]
        have j1 : IntKind.i64.wrap ((xs.length : Int) + (ys.length : Int)) = (xs.length : Int) + (ys.length : Int) := IntWalk.i64_in _ (by omega)
        have j3 : ¬ ((xs.length : Int) + (ys.length : Int) < 0) := by omega
        go_wp2_with fail
        go_roundg 1
        case measure => have := KG.out; omega
        case rel => exact ⟨2, rfl, ⟨by omega, by omega⟩, by rw [e1.out]; push_cast; rfl, rfl⟩
      · go_wp2_with fail
        go_meet
        exact ⟨by simp [catS], rfl⟩
  case rest =>
    obtain ⟨rfl, rfl⟩ := hcut
    go_wp2_with fail
    refine (growS_any _ _ (by omega)).mono ?_
    rintro e w2 ⟨v0, rfl, ho, hb2⟩
    have HB2 := Lib.hid hb2
    clear hb2
    go_upto_block 2 with fail
    go_cut [6] (fun s6 wx => Hid (wx.ownsRow wc.heap.size 9 1 s6 (xs ++ ys).length ((xs ++ ys).map Value.string)) ∧ Hid (Below wc.heap.size wc wx))
    case first =>
      go_wp2_with fail
      go_loopg [6, 8, 27] 3 (fun gh v6 _ v27 wr => ∃ k : Nat, v27 = .int .i64 k ∧ (k ≤ 2 ∧ 2 - k < gh) ∧ Hid (wr.ownsRow wc.heap.size 9 1 v6 (catS xs ys k).length ((catS xs ys k).map Value.string)) ∧ Hid (Below wc.heap.size wc wr))
      case atStart => exact ⟨0, rfl, ⟨by omega, by omega⟩, ho, HB2⟩
      case round =>
        obtain ⟨k, rfl, ⟨k0, kg⟩, ow, hB⟩ := hrel
        have KG := Lib.hid kg
        clear kg ho HB2
        have sz := hB.out.size
        have ra := Lib.hid (ha.out.keep (hB.out.mono (Nat.le_refl _)))
        have rb := Lib.hid (hv.out.keep (hB.out.mono (Nat.le_refl _)))
        have c0 : wr.cell? ⟨b, 0, none⟩ = some va := (hB.out.cell (p := ⟨b, 0, none⟩) hb).trans ca
        have c1 : wr.cell? ⟨b, 1, none⟩ = some vb := (hB.out.cell (p := ⟨b, 1, none⟩) hb).trans cb
        obtain rfl | rfl | rfl : k = 0 ∨ k = 1 ∨ k = 2 := by omega
        · rcases ra.out.addr za.out with ⟨hn, z0⟩ | ⟨ad, cap, hn, rg⟩
          · have E : Hid (catS xs ys 1 = catS xs ys 0) := Lib.hid (by simp [catS, z0])
            rw [hn] at c0
            clear z0
            go_wp2_with (first | (at_builtin; refine wpList_append_own_none rfl (.tmp 31) (.tmp 32) 99 rfl wc.heap.size 9 i0 1 Try.underlying99 hi _ _ _ rfl ow.out rfl ?_))
            go_roundg 2
            case measure => have := KG.out; omega
            case rel => exact ⟨1, rfl, ⟨by omega, by omega⟩, by rw [E.out]; exact ow, hB⟩
          · have E : Hid (catS xs ys 1 = catS xs ys 0 ++ xs) := Lib.hid (by simp [catS])
            rw [hn] at c0
            have LK : (catS xs ys 0).length ≤ 1000 := by simp [catS]; try omega
            go_wp2_with (first | (at_builtin; refine wpList_append_own _ rfl (.tmp 31) (.tmp 32) 99 rfl wc.heap.size 9 i0 (.string ⟨#[]⟩) 1 16 Try.underlying99 hi hz0 hz1 hz2 rfl (by decide) _ _ _ rfl ow.out ad xs.length cap (xs.map Value.string) rfl (by simp) rg (by intro u hu; simp at hu; obtain ⟨y, _, rfl⟩ := hu; rfl) (by unfold maxLen; omega) (by omega) sz ?_))
            intro v' w1 own' grow' _
            have O' : Hid (w1.ownsRow wc.heap.size 9 1 v' (catS xs ys 1).length ((catS xs ys 1).map Value.string)) := Lib.hid (by rw [E.out, List.length_append, List.map_append]; exact own')
            have B' : Hid (Below wc.heap.size wc w1) := Lib.hid (hB.out.grown grow' sz (fun k' e' => (ow.out.lt k' e').1))
            clear own' grow' rg
            go_wp2_with fail
            go_roundg 2
            case measure => have := KG.out; omega
            case rel => exact ⟨1, rfl, ⟨by omega, by omega⟩, O', B'⟩
        · rcases rb.out.addr zb.out with ⟨hn, z0⟩ | ⟨ad, cap, hn, rg⟩
          · have E : Hid (catS xs ys 2 = catS xs ys 1) := Lib.hid (by simp [catS, z0])
            rw [hn] at c1
            clear z0
            go_wp2_with (first | (at_builtin; refine wpList_append_own_none rfl (.tmp 31) (.tmp 32) 99 rfl wc.heap.size 9 i0 1 Try.underlying99 hi _ _ _ rfl ow.out rfl ?_))
            go_roundg 1
            case measure => have := KG.out; omega
            case rel => exact ⟨2, rfl, ⟨by omega, by omega⟩, by rw [E.out]; exact ow, hB⟩
          · have E : Hid (catS xs ys 2 = catS xs ys 1 ++ ys) := Lib.hid (by simp [catS])
            rw [hn] at c1
            have LK : (catS xs ys 1).length ≤ 1000 := by simp [catS]; try omega
            go_wp2_with (first | (at_builtin; refine wpList_append_own _ rfl (.tmp 31) (.tmp 32) 99 rfl wc.heap.size 9 i0 (.string ⟨#[]⟩) 1 16 Try.underlying99 hi hz0 hz1 hz2 rfl (by decide) _ _ _ rfl ow.out ad ys.length cap (ys.map Value.string) rfl (by simp) rg (by intro u hu; simp at hu; obtain ⟨y, _, rfl⟩ := hu; rfl) (by unfold maxLen; omega) (by omega) sz ?_))
            intro v' w1 own' grow' _
            have O' : Hid (w1.ownsRow wc.heap.size 9 1 v' (catS xs ys 2).length ((catS xs ys 2).map Value.string)) := Lib.hid (by rw [E.out, List.length_append, List.map_append]; exact own')
            have B' : Hid (Below wc.heap.size wc w1) := Lib.hid (hB.out.grown grow' sz (fun k' e' => (ow.out.lt k' e').1))
            clear own' grow' rg
            go_wp2_with fail
            go_roundg 1
            case measure => have := KG.out; omega
            case rel => exact ⟨2, rfl, ⟨by omega, by omega⟩, O', B'⟩
        · go_wp2_with fail
          go_meet
          exact ⟨Lib.hid (by have e := ow.out; simpa [catS] using e), hB⟩
    case rest =>
      obtain ⟨ow, hB⟩ := hcut
      go_wp2
      exact bodyPost_ret (v := _) (by simp [results, Try.results123, go_sem, *]) rfl ⟨_, rfl, ow, hB.out⟩
end Go.Proofs.Ytcpeailodgoilaa
