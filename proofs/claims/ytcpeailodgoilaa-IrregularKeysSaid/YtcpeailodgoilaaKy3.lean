/-
  Part 3: IrD, IrE, IrF, IrN.
-/
import Derived.Test.YtcpeailodgoilaaKy2
import Derived.BigQuiet
import Derived.Deep.CutBlock
import Derived.Deep.DeepCutAuto
import Derived.Deep.DeepFit
import Derived.Deep.DrawnRows
import Derived.Deep.LoopGhost
import Derived.Deep.QuietTactic
import Derived.Deep.RegionHeld3
import Derived.Deep.RegionWith
import Derived.Laws.AppendOwn
import Derived.Laws.AppendOwnNone
import Derived.Lib.AppendZerosOnto
import Derived.Lib.Hide
import Derived.Maps.AppendAt
import Derived.OwnWalk
import Derived.Shelf.Abstract
import Derived.WalkKit
import Derived.WalkLawsBesides
import Derived.WalkSpells
namespace Go.Proofs.Ytcpeailodgoilaa
open Go.RowKit
theorem i_own_base {w : World} {base base' : Nat} {e : TypeId} {size : Nat} {v : Value} {n : Nat} {xs : List Value} (h : w.ownsRow base e size v n xs) (hb : base' ≤ base) : w.ownsRow base' e size v n xs := by
  refine ⟨h.1, ?_⟩
  rcases h.2 with hn | ⟨g, cap, cur, hv, hg, rest⟩
  · exact Or.inl hn
  · exact Or.inr ⟨g, cap, cur, hv, Nat.le_trans hb hg, rest⟩
/-- the error of an operation -/
def combE (keep : Bool → Bool → Bool) (A B : List Bs) : Int := if ckE A = 0 then (if ckE B = 0 then (if 5000 < (mg keep A B).length then 5 else 0) else ckE B) else ckE A
/-- what an operation returns -/
def CombRet (keep : Bool → Bool → Bool) (A B : List Bs) (w : World) : Ending → World → Prop := fun e w' => ∃ (v : Value) (er : Int), e = .returned (.tuple #[v, .int .i64 er]) ∧ Below w.heap.size w w' ∧
  Hid (er = combE keep A B ∧ ((er = 0 ∧ w'.ownsRow w.heap.size 9 1 v (mg keep A B).length ((mg keep A B).map Value.string)) ∨ (¬ er = 0 ∧ v = .slice none 0 0)))
set_option maxRecDepth 100000 in
set_option maxHeartbeats 3200000 in
theorem combine_any (g : Nat) (eg : ∀ args w, (callFunc g args).run Try.prog w = .ok (.enter g args) w) (keep : Bool → Bool → Bool) (hk : Hid (∀ x y w, Calls Try.prog g #[.bool x, .bool y] w fun e w' => e = .returned (.bool (keep x y)) ∧ w = w'))
    (va vb : Value) (A B : List Bs) (w : World) (hra : Rs w va A) (hrb : Rs w vb B) (hn : A.length + B.length ≤ 100000) :
    Calls Try.prog 193 #[va, vb, .func (.func g) #[] #[]] w (CombRet keep A B w) := by
  have HA := Lib.hid hra
  have HB := Lib.hid hrb
  obtain ⟨a0, c0, rfl, _, _⟩ := hra
  obtain ⟨a1, c1, rfl, _, _⟩ := hrb
  go_enter Try.func193, Try.ntmps193
  go_wp2_with fail
  refine (checkKeys_any _ A _ HA.out (by omega)).mono ?_
  rintro e w' ⟨rfl, rfl⟩
  by_cases ca : ckE A = 0
  · have CA := Lib.hid ca
    rw [ca]
    clear ca
    go_wp2_with fail
    refine (checkKeys_any _ B _ HB.out (by omega)).mono ?_
    rintro e w' ⟨rfl, rfl⟩
    by_cases cb : ckE B = 0
    · have CB := Lib.hid cb
      rw [cb]
      clear cb
      go_wp2_with fail
      refine (merge_any g eg keep hk _ _ A B _ HA.out HB.out hn).mono ?_
      rintro e w1 ⟨v, rfl, ow, hb⟩
      have HW := Lib.hid hb
      clear hb
      obtain ⟨lo, lc, rfl⟩ := i_own_slice ow.out
      by_cases big : 5000 < (mg keep A B).length
      · have b' : (5000 : Int) < ((mg keep A B).length : Int) := by omega
        have E : Hid (combE keep A B = 5) := Lib.hid (by unfold combE; rw [if_pos CA.out, if_pos CB.out, if_pos big])
        clear big
        generalize (mg keep A B).length = n at *
        go_wp2
        exact bodyPost_ret (v := .tuple #[.slice none 0 0, .int .i64 5]) (by simp [results, Try.results193, go_sem, *]) rfl ⟨_, _, rfl, HW.out, Lib.hid ⟨E.out.symm, .inr ⟨by decide, rfl⟩⟩⟩
      · have b' : ¬ (5000 : Int) < ((mg keep A B).length : Int) := by omega
        have E : Hid (combE keep A B = 0) := Lib.hid (by unfold combE; rw [if_pos CA.out, if_pos CB.out, if_neg big])
        have OW := Lib.hid ow.out
        clear big ow
        generalize hN : (mg keep A B).length = n at *
        have HN := Lib.hid hN
        clear hN
        go_wp2
        exact bodyPost_ret (v := .tuple #[.slice lo n lc, .int .i64 0]) (by simp [results, Try.results193, go_sem, *]) rfl ⟨_, _, rfl, HW.out, Lib.hid ⟨E.out.symm, .inl ⟨rfl, by rw [HN.out]; exact OW.out⟩⟩⟩
    · have E : Hid (combE keep A B = ckE B) := Lib.hid (by unfold combE; rw [if_pos CA.out, if_neg cb])
      generalize ckE B = er at *
      have NE := Lib.hid cb
      have c2 : (er != 0) = true := by simp [cb]
      go_wp2
      exact bodyPost_ret (v := .tuple #[.slice none 0 0, .int .i64 er]) (by simp [results, Try.results193, go_sem, *]) rfl ⟨_, _, rfl, Below.refl _ _, Lib.hid ⟨E.out.symm, .inr ⟨NE.out, rfl⟩⟩⟩
  · have E : Hid (combE keep A B = ckE A) := Lib.hid (by unfold combE; rw [if_neg ca])
    generalize ckE A = er at *
    have NE := Lib.hid ca
    have c2 : (er != 0) = true := by simp [ca]
    go_wp2
    exact bodyPost_ret (v := .tuple #[.slice none 0 0, .int .i64 er]) (by simp [results, Try.results193, go_sem, *]) rfl ⟨_, _, rfl, Below.refl _ _, Lib.hid ⟨E.out.symm, .inr ⟨NE.out, rfl⟩⟩⟩
theorem rs_one (k : Bs) (t : TypeId) (w : World) : Rs (w.alloc (.cells #[.string k] t)) (.slice (some ⟨w.heap.size, 0, none⟩) 1 1) [k] := by
  refine ⟨_, 1, rfl, by simp, .inr ⟨w.heap.size, 0, rfl, by simp, fun j s hs => ?_⟩⟩
  have : j = 0 := by have := (List.getElem?_eq_some_iff.1 hs).1; simp at this; omega
  subst this
  simp at hs
  subst hs
  exact cell_one_new w (.string k) t 0 _ rfl
/-- what change returns -/
def ChgRet (keep : Bool → Bool → Bool) (A : List Bs) (k : Bs) (w : World) : Ending → World → Prop := fun e w' => ∃ (v : Value) (b : Bool) (er : Int), e = .returned (.tuple #[v, .bool b, .int .i64 er]) ∧ Below w.heap.size w w' ∧
  Hid (er = combE keep A [k] ∧ ((er = 0 ∧ b = decide ((mg keep A [k]).length ≠ A.length) ∧ w'.ownsRow w.heap.size 9 1 v (mg keep A [k]).length ((mg keep A [k]).map Value.string)) ∨ (¬ er = 0 ∧ b = false ∧ v = .slice none 0 0)))
set_option maxRecDepth 100000 in
set_option maxHeartbeats 3200000 in
theorem change_any (g : Nat) (eg : ∀ args w, (callFunc g args).run Try.prog w = .ok (.enter g args) w) (keep : Bool → Bool → Bool) (hk : Hid (∀ x y w, Calls Try.prog g #[.bool x, .bool y] w fun e w' => e = .returned (.bool (keep x y)) ∧ w = w'))
    (va : Value) (A : List Bs) (k : Bs) (w : World) (hra : Rs w va A) (hn : A.length ≤ 10000) :
    Calls Try.prog 186 #[va, .string k, .func (.func g) #[] #[]] w (ChgRet keep A k w) := by
  have HA := Lib.hid hra
  obtain ⟨a0, c0, rfl, _, _⟩ := hra
  go_enter Try.func186, Try.ntmps186
  go_wp2_with fail
  have HA1 := HA.out.keep ((Below.refl _ w).alloc (Nat.le_refl _) (.cells #[.string k] 9))
  have HK1 := rs_one k 9 w
  refine (combine_any g eg keep hk _ _ A [k] _ HA1 HK1 (by simp; omega)).mono ?_
  rintro e w1 ⟨v, er, rfl, hb, hE⟩
  have HW : Hid (Below w.heap.size w w1) := Lib.hid (((Below.refl _ w).alloc (Nat.le_refl _) _).trans (hb.mono (by simp)))
  clear hb
  obtain ⟨e1, h⟩ := hE.out
  rcases h with ⟨z, ow⟩ | ⟨z, rfl⟩
  · subst z
    obtain ⟨lo, lc, rfl⟩ := i_own_slice ow
    have OW := Lib.hid (i_own_base ow (show w.heap.size ≤ _ by simp))
    have E := Lib.hid e1
    clear ow e1 hE
    generalize hN : (mg keep A [k]).length = n at *
    have HN := Lib.hid hN
    clear hN
    by_cases c : n = A.length
    · have C := Lib.hid c
      have c1 : ((n : Int) != (A.length : Int)) = false := by simp [c]
      subst c
      go_wp2
      exact bodyPost_ret (v := .tuple #[.slice lo A.length lc, .bool false, .int .i64 0]) (by simp [results, Try.results186, go_sem, *]) rfl ⟨_, _, _, rfl, HW.out, Lib.hid ⟨E.out, .inl ⟨rfl, by rw [HN.out]; simp, by rw [HN.out]; exact OW.out⟩⟩⟩
    · have C := Lib.hid c
      have c1 : ((n : Int) != (A.length : Int)) = true := by simp; omega
      have c2 : ¬ (n : Int) = (A.length : Int) := by omega
      go_wp2
      exact bodyPost_ret (v := .tuple #[.slice lo n lc, .bool true, .int .i64 0]) (by simp [results, Try.results186, go_sem, *]) rfl ⟨_, _, _, rfl, HW.out, Lib.hid ⟨E.out, .inl ⟨rfl, by rw [HN.out]; simp [C.out], by rw [HN.out]; exact OW.out⟩⟩⟩
  · have NE := Lib.hid z
    have E := Lib.hid e1
    have c2 : (er == 0) = false := by simp [z]
    clear e1 hE
    go_wp2
    exact bodyPost_ret (v := .tuple #[.slice none 0 0, .bool false, .int .i64 er]) (by simp [results, Try.results186, go_sem, *]) rfl ⟨_, _, _, rfl, HW.out, Lib.hid ⟨E.out, .inr ⟨NE.out, rfl, rfl⟩⟩⟩
set_option maxRecDepth 100000 in
theorem Add_any (va : Value) (A : List Bs) (k : Bs) (w : World) (hra : Rs w va A) (hn : A.length ≤ 10000) :
    Calls Try.prog 109 #[va, .string k] w (ChgRet kOr A k w) := by
  have HA := Lib.hid hra
  obtain ⟨a0, c0, rfl, _, _⟩ := hra
  go_enter Try.func109, Try.ntmps109
  go_wp2_with fail
  refine (change_any 187 (enters_of Try.func187 (by kernel_rfl) rfl) kOr (Lib.hid fun x y w => keepAdd_any x y w) _ A k _ HA.out hn).mono ?_
  rintro e w1 ⟨v, b, er, rfl, hb, hE⟩
  have HW := Lib.hid hb
  clear hb
  go_wp2
  exact bodyPost_ret (v := .tuple #[v, .bool b, .int .i64 er]) (by simp [results, Try.results109, go_sem, *]) rfl ⟨_, _, _, rfl, HW.out, hE⟩
set_option maxRecDepth 100000 in
theorem Remove_any (va : Value) (A : List Bs) (k : Bs) (w : World) (hra : Rs w va A) (hn : A.length ≤ 10000) :
    Calls Try.prog 112 #[va, .string k] w (ChgRet kLess A k w) := by
  have HA := Lib.hid hra
  obtain ⟨a0, c0, rfl, _, _⟩ := hra
  go_enter Try.func112, Try.ntmps112
  go_wp2_with fail
  refine (change_any 192 (enters_of Try.func192 (by kernel_rfl) rfl) kLess (Lib.hid fun x y w => keepRem_any x y w) _ A k _ HA.out hn).mono ?_
  rintro e w1 ⟨v, b, er, rfl, hb, hE⟩
  have HW := Lib.hid hb
  clear hb
  go_wp2
  exact bodyPost_ret (v := .tuple #[v, .bool b, .int .i64 er]) (by simp [results, Try.results112, go_sem, *]) rfl ⟨_, _, _, rfl, HW.out, hE⟩
set_option maxRecDepth 100000 in
theorem Join_any (va vb : Value) (A B : List Bs) (w : World) (hra : Rs w va A) (hrb : Rs w vb B) (hn : A.length + B.length ≤ 100000) :
    Calls Try.prog 114 #[va, vb] w (CombRet kOr A B w) := by
  have HA := Lib.hid hra
  have HB := Lib.hid hrb
  obtain ⟨a0, c0, rfl, _, _⟩ := hra
  obtain ⟨a1, c1, rfl, _, _⟩ := hrb
  go_enter Try.func114, Try.ntmps114
  go_wp2_with fail
  refine (combine_any 194 (enters_of Try.func194 (by kernel_rfl) rfl) kOr (Lib.hid fun x y w => keepJoin_any x y w) _ _ A B _ HA.out HB.out hn).mono ?_
  rintro e w1 ⟨v, er, rfl, hb, hE⟩
  have HW := Lib.hid hb
  clear hb
  go_wp2
  exact bodyPost_ret (v := .tuple #[v, .int .i64 er]) (by simp [results, Try.results114, go_sem, *]) rfl ⟨_, _, rfl, HW.out, hE⟩
set_option maxRecDepth 100000 in
theorem Meet_any (va vb : Value) (A B : List Bs) (w : World) (hra : Rs w va A) (hrb : Rs w vb B) (hn : A.length + B.length ≤ 100000) :
    Calls Try.prog 116 #[va, vb] w (CombRet kAnd A B w) := by
  have HA := Lib.hid hra
  have HB := Lib.hid hrb
  obtain ⟨a0, c0, rfl, _, _⟩ := hra
  obtain ⟨a1, c1, rfl, _, _⟩ := hrb
  go_enter Try.func116, Try.ntmps116
  go_wp2_with fail
  refine (combine_any 196 (enters_of Try.func196 (by kernel_rfl) rfl) kAnd (Lib.hid fun x y w => keepMeet_any x y w) _ _ A B _ HA.out HB.out hn).mono ?_
  rintro e w1 ⟨v, er, rfl, hb, hE⟩
  have HW := Lib.hid hb
  clear hb
  go_wp2
  exact bodyPost_ret (v := .tuple #[v, .int .i64 er]) (by simp [results, Try.results116, go_sem, *]) rfl ⟨_, _, rfl, HW.out, hE⟩
set_option maxRecDepth 100000 in
theorem Less_any (va vb : Value) (A B : List Bs) (w : World) (hra : Rs w va A) (hrb : Rs w vb B) (hn : A.length + B.length ≤ 100000) :
    Calls Try.prog 118 #[va, vb] w (CombRet kLess A B w) := by
  have HA := Lib.hid hra
  have HB := Lib.hid hrb
  obtain ⟨a0, c0, rfl, _, _⟩ := hra
  obtain ⟨a1, c1, rfl, _, _⟩ := hrb
  go_enter Try.func118, Try.ntmps118
  go_wp2_with fail
  refine (combine_any 197 (enters_of Try.func197 (by kernel_rfl) rfl) kLess (Lib.hid fun x y w => keepLess_any x y w) _ _ A B _ HA.out HB.out hn).mono ?_
  rintro e w1 ⟨v, er, rfl, hb, hE⟩
  have HW := Lib.hid hb
  clear hb
  go_wp2
  exact bodyPost_ret (v := .tuple #[v, .int .i64 er]) (by simp [results, Try.results118, go_sem, *]) rfl ⟨_, _, rfl, HW.out, hE⟩
set_option maxRecDepth 100000 in
theorem Odd_any (va vb : Value) (A B : List Bs) (w : World) (hra : Rs w va A) (hrb : Rs w vb B) (hn : A.length + B.length ≤ 100000) :
    Calls Try.prog 120 #[va, vb] w (CombRet kOdd A B w) := by
  have HA := Lib.hid hra
  have HB := Lib.hid hrb
  obtain ⟨a0, c0, rfl, _, _⟩ := hra
  obtain ⟨a1, c1, rfl, _, _⟩ := hrb
  go_enter Try.func120, Try.ntmps120
  go_wp2_with fail
  refine (combine_any 198 (enters_of Try.func198 (by kernel_rfl) rfl) kOdd (Lib.hid fun x y w => keepOdd_any x y w) _ _ A B _ HA.out HB.out hn).mono ?_
  rintro e w1 ⟨v, er, rfl, hb, hE⟩
  have HW := Lib.hid hb
  clear hb
  go_wp2
  exact bodyPost_ret (v := .tuple #[v, .int .i64 er]) (by simp [results, Try.results120, go_sem, *]) rfl ⟨_, _, rfl, HW.out, hE⟩
end Go.Proofs.Ytcpeailodgoilaa
namespace Go.Proofs.Ytcpeailodgoilaa
open Go.RowKit
/-- whether lists of keys are few and short -/
def fkB (VL : List (Value × List Bs)) : Bool := VL.all fun p => decide (p.2.length ≤ 100) && !anyLong p.2
set_option maxRecDepth 100000 in
set_option maxHeartbeats 3200000 in
theorem fewKeys_any (g o cap : Nat) (VL : List (Value × List Bs)) (w : World) (hs : Hid (∀ (j : Nat) (p : Value × List Bs), VL[j]? = some p → w.cell? ⟨g, o + j, none⟩ = some p.1 ∧ Rs w p.1 p.2)) (hn : VL.length ≤ 1000) :
    Calls Try.prog 105 #[.slice (some ⟨g, o, none⟩) VL.length cap] w fun e w' => e = .returned (.bool (fkB VL)) ∧ w = w' := by
  go_enter Try.func105, Try.ntmps105
  go_wp2_with fail
  go_loopg [4, 7] (VL.length + 1) (fun gh _ v7 wr => ∃ j : Nat, v7 = .int .i64 j ∧ (j ≤ VL.length ∧ VL.length - j < gh) ∧ Hid (fkB (VL.take j) = true) ∧ wr = w)
  case atStart => exact ⟨0, rfl, ⟨by omega, by omega⟩, Lib.hid rfl, rfl⟩
  case round =>
    obtain ⟨j, rfl, ⟨j0, jg⟩, hE, rfl⟩ := hrel
    have KG := Lib.hid jg
    clear jg
    by_cases hj : j < VL.length
    · obtain ⟨⟨v, L⟩, hp⟩ : ∃ p, VL[j]? = some p := ⟨VL[j], List.getElem?_eq_getElem hj⟩
      obtain ⟨p0, r0⟩ := hs.out j _ hp
      have FS := Lib.hid hp
      have R0 := Lib.hid r0
      have jw : IntKind.i64.wrap ((j : Int) + 1) = (j : Int) + 1 := IntWalk.i64_in _ (by omega)
      dsimp only at p0 r0
      obtain ⟨ao, cp, rfl, _, _⟩ := r0
      clear hp
      by_cases z : 100 < L.length
      · have z' : (100 : Int) < (L.length : Int) := by omega
        have Eq : Hid (fkB VL = false) := Lib.hid (by
          unfold fkB
          rw [List.all_eq_false]
          exact ⟨_, List.mem_of_getElem? FS.out, by simp; omega⟩)
        clear z
        go_wp2
        exact bodyPost_ret (v := .bool false) (by simp [results, Try.results105, go_sem, *]) rfl ⟨by rw [Eq.out], rfl⟩
      · have z' : ¬ (100 : Int) < (L.length : Int) := by omega
        have Z := Lib.hid z
        clear z
        go_wp2_with fail
        refine (cfLong_any _ L _ R0.out (by have := Z.out; omega)).mono ?_
        rintro e w' ⟨rfl, rfl⟩
        cases al : anyLong L
        · have Eq : Hid (fkB (VL.take (j + 1)) = true) := Lib.hid (by
            have h := hE.out
            unfold fkB at h ⊢
            rw [List.take_add_one, FS.out, List.all_append, h]
            simp [al]
            have := Z.out
            omega)
          clear hE
          go_wp2_with fail
          go_roundg (VL.length - j)
          case measure => exact KG.out
          case rel => exact ⟨j + 1, by go_num, ⟨by omega, by omega⟩, Eq, rfl⟩
        · have Eq : Hid (fkB VL = false) := Lib.hid (by
            unfold fkB
            rw [List.all_eq_false]
            exact ⟨_, List.mem_of_getElem? FS.out, by simp [al]⟩)
          go_wp2
          exact bodyPost_ret (v := .bool false) (by simp [results, Try.results105, go_sem, *]) rfl ⟨by rw [Eq.out], rfl⟩
    · have Eq : Hid (fkB VL = true) := Lib.hid (by
        have h := hE.out
        rwa [List.take_of_length_le (by omega)] at h)
      go_wp2
      exact bodyPost_ret (v := .bool true) (by simp [results, Try.results105, go_sem, *]) rfl ⟨by rw [Eq.out], rfl⟩
set_option maxRecDepth 100000 in
set_option maxHeartbeats 3200000 in
theorem equalK_any (va vb : Value) (L M : List Bs) (w : World) (hra : Rs w va L) (hrb : Rs w vb M) (hn : L.length ≤ 100000 ∧ M.length ≤ 100000) :
    Calls Try.prog 111 #[va, vb] w fun e w' => ∃ b : Bool, e = .returned (.bool b) ∧ Hid (b = true ↔ L = M) ∧ Below w.heap.size w w' := by
  obtain ⟨ao, ca, rfl, _, qa⟩ := hra
  obtain ⟨bo, cb, rfl, _, qb⟩ := hrb
  have QA := Lib.hid qa
  have QB := Lib.hid qb
  clear qa qb
  go_enter Try.func111, Try.ntmps111
  by_cases ne : L.length = M.length
  · have NE := Lib.hid ne
    rw [← ne]
    clear ne
    go_wp2_with fail
    go_loopg [5, 13] (L.length + 1) (fun gh _ v13 wr => ∃ j : Nat, v13 = .int .i64 j ∧ (j ≤ L.length ∧ L.length - j < gh) ∧ Hid (L.take j = M.take j) ∧ Hid (Below w.heap.size w wr))
    case atStart => exact ⟨0, rfl, ⟨by omega, by omega⟩, Lib.hid rfl, Lib.hid (Below.refl _ _)⟩
    case round =>
      obtain ⟨j, rfl, ⟨j0, jg⟩, hE, HB⟩ := hrel
      have KG := Lib.hid jg
      clear jg
      by_cases hj : j < L.length
      · obtain ⟨x, hx⟩ : ∃ x, L[j]? = some x := ⟨L[j], List.getElem?_eq_getElem hj⟩
        obtain ⟨y, hy⟩ : ∃ y, M[j]? = some y := ⟨M[j]'(by have := NE.out; omega), List.getElem?_eq_getElem _⟩
        obtain ⟨b1, o1, rfl, z1, r1⟩ := QA.out.resolve_left (by omega)
        obtain ⟨b2, o2, rfl, z2, r2⟩ := QB.out.resolve_left (by have := NE.out; omega)
        have p0 : wr.cell? ⟨b1, o1 + j, none⟩ = some (.string x) := (HB.out.cell (p := ⟨b1, o1 + j, none⟩) z1).trans (r1 j x hx)
        have q0 : wr.cell? ⟨b2, o2 + j, none⟩ = some (.string y) := (HB.out.cell (p := ⟨b2, o2 + j, none⟩) z2).trans (r2 j y hy)
        have FX := Lib.hid hx
        have FY := Lib.hid hy
        clear hx hy r1 r2
        by_cases z : x = y
        · have z' : (x.toList == y.toList) = true := (seq_iff x y).2 z
          have z2' : (x.toList != y.toList) = false := by unfold bne; rw [z']; rfl
          have E2 : Hid (L.take (j + 1) = M.take (j + 1)) := Lib.hid (by rw [List.take_add_one, List.take_add_one, hE.out, FX.out, FY.out, z])
          clear z hE
          go_wp2_with fail
          go_quiet (fail)
          go_wp2
          go_roundg (L.length - j)
          case measure => exact KG.out
          case rel => exact ⟨j + 1, by go_num, ⟨by omega, by omega⟩, E2, Lib.hid (HB.out.trans (below_drewN (Below.refl _ _) _))⟩
        · have z' : (x.toList == y.toList) = false := by
            have : ¬ (x.toList == y.toList) = true := fun h => z ((seq_iff x y).1 h)
            simpa using this
          have E2 : Hid (¬ L = M) := Lib.hid (fun h => by
            have a := FX.out
            rw [h, FY.out] at a
            cases a
            exact z rfl)
          clear z hE
          go_wp2_with fail
          go_quiet (fail)
          go_wp2
          exact bodyPost_ret (v := .bool false) (by simp [results, Try.results111, go_sem, *]) rfl ⟨_, rfl, Lib.hid ⟨(fun h => nomatch h), fun h => absurd h E2.out⟩, HB.out.trans (below_drewN (Below.refl _ _) _)⟩
      · have E2 : Hid (L = M) := Lib.hid (by
          have h := hE.out
          rwa [List.take_of_length_le (by omega), List.take_of_length_le (by have := NE.out; omega)] at h)
        go_wp2
        exact bodyPost_ret (v := .bool true) (by simp [results, Try.results111, go_sem, *]) rfl ⟨_, rfl, Lib.hid ⟨fun _ => E2.out, fun _ => rfl⟩, HB.out⟩
  · have c1 : ((L.length : Int) != (M.length : Int)) = true := by simp; omega
    have c2 : ¬ (L.length : Int) = (M.length : Int) := by omega
    have NE := Lib.hid ne
    clear ne
    go_wp2
    exact bodyPost_ret (v := .bool false) (by simp [results, Try.results111, go_sem, *]) rfl ⟨_, rfl, Lib.hid ⟨(fun h => nomatch h), fun h => absurd (congrArg List.length h) NE.out⟩, Below.refl _ _⟩
end Go.Proofs.Ytcpeailodgoilaa
namespace Go.Proofs.Ytcpeailodgoilaa
open Go.RowKit
theorem Rs.news {w : World} {b o n c : Nat} {L : List Bs} (r : Rs w (.slice (some ⟨b, o, Option.none⟩) n c) L) : ∀ (j : Nat) (u : Value), (L.map Value.string)[j]? = some u → w.cell? ((⟨b, o, Option.none⟩ : Addr).add j) = some u := fun j u hu => by
  obtain ⟨ao, cap, e, _, h⟩ := r
  cases e
  have lt := (List.getElem?_eq_some_iff.1 hu).1
  rw [List.length_map] at lt
  obtain ⟨b', o', e, _, q⟩ := h.resolve_left (by omega)
  cases e
  rw [List.getElem?_map] at hu
  obtain ⟨s, hs, e⟩ := Option.map_eq_some_iff.1 hu
  subst e
  rw [Addr.add_lit]
  exact q j s hs
end Go.Proofs.Ytcpeailodgoilaa
namespace Go.Proofs.Ytcpeailodgoilaa
open Go.RowKit
set_option maxRecDepth 100000 in
set_option maxHeartbeats 6400000 in
theorem rck_any (v : Value) (L : List Bs) (w : World) (hr : Rs w v L) (hn : L.length ≤ 100000) :
    Calls Try.prog 108 #[v] w fun e w' => e = .returned (.int .i64 (ckE L)) ∧ Below w.heap.size w w' := by
  obtain ⟨ao, cp, rfl, _, hc⟩ := hr
  have HC := Lib.hid hc
  clear hc
  go_enter Try.func108, Try.ntmps108
  by_cases big : 5000 < L.length
  · have E : Hid (ckE L = 5) := Lib.hid (if_pos big)
    have b' : (5000 : Int) < (L.length : Int) := by omega
    clear big
    go_wp2
    exact bodyPost_ret (v := .int .i64 5) (by simp [results, Try.results108, go_sem, *]) rfl ⟨by rw [E.out], Below.refl _ _⟩
  · have E : Hid (ckE L = ckF none L) := Lib.hid (if_neg big)
    have b' : ¬ (5000 : Int) < (L.length : Int) := by omega
    clear big
    go_wp2_with fail
    go_loopg [3] (L.length + 1) (fun gh v3 wr => ∃ j : Nat, v3 = .int .i64 j ∧ (j ≤ L.length ∧ L.length - j < gh) ∧ Hid (ckE L = ckF (ahead L j) (L.drop j)) ∧ Hid (Below w.heap.size w wr))
    case atStart => exact ⟨0, rfl, ⟨by omega, by omega⟩, Lib.hid E.out, Lib.hid (Below.refl _ _)⟩
    case round =>
      obtain ⟨j, rfl, ⟨j0, jg⟩, hE, HB⟩ := hrel
      have KG := Lib.hid jg
      clear jg
      by_cases hj : j < L.length
      · obtain ⟨s, hs⟩ : ∃ s, L[j]? = some s := ⟨L[j], List.getElem?_eq_getElem hj⟩
        obtain ⟨b, o, rfl, lt, cs⟩ := HC.out.resolve_left (by omega)
        have p0 := (HB.out.cell (p := ⟨b, o + j, none⟩) lt).trans (cs j s hs)
        have ST := Lib.hid (hE.out.trans (ckF_step hs))
        have jw : IntKind.i64.wrap ((j : Int) + 1) = (j : Int) + 1 := IntWalk.i64_in _ (by omega)
        have CS := Lib.hid cs
        have jl : (j : Int) < (L.length : Int) := by omega
        clear hs cs hE
        by_cases sz : 100 < s.size
        · have s' : (100 : Int) < (s.size : Int) := by omega
          have E2 := Lib.hid (ST.out.trans (if_pos sz))
          clear sz
          go_wp2
          exact bodyPost_ret (v := .int .i64 7) (by simp [results, Try.results108, go_sem, *]) rfl ⟨by rw [E2.out], HB.out⟩
        · have s' : ¬ (100 : Int) < (s.size : Int) := by omega
          have ST := Lib.hid (ST.out.trans (if_neg sz))
          clear sz
          by_cases jz : j = 0
          · subst jz
            rw [Nat.add_zero] at p0
            have E2 : Hid (ckE L = ckF (ahead L 1) (L.drop 1)) := Lib.hid (ST.out.trans (if_neg (by simp [ahead])))
            go_wp2_with fail
            go_quiet (fail)
            go_wp2
            go_roundg (L.length - 0)
            case measure => exact KG.out
            case rel => exact ⟨1, rfl, ⟨by omega, by omega⟩, E2, Lib.hid (HB.out.trans (below_drewN (Below.refl _ _) _))⟩
          · obtain ⟨i, hi⟩ : ∃ i, j = i + 1 := ⟨j - 1, by omega⟩
            obtain ⟨q, gq⟩ : ∃ q, L[i]? = some q := ⟨L[i]'(by omega), List.getElem?_eq_getElem _⟩
            have q0 := (HB.out.cell (p := ⟨b, o + i, none⟩) lt).trans (CS.out i q gq)
            have AH : Hid (ahead L j = some q) := Lib.hid (by unfold ahead; rw [if_neg jz, hi]; exact gq)
            have ji : 1 ≤ j := by omega
            have kp : (0 : Int) < j := by omega
            have kp0 : 0 < j := by omega
            have kp1 : ¬ j = 0 := jz
            have ji' : (1 : Int) ≤ j := by omega
            have iw : IntKind.i64.wrap ((j : Int) - 1) = (j : Int) - 1 := IntWalk.i64_in _ (by omega)
            have jt : ((j : Int) - 1).toNat = i := by omega
            have jb : (0 : Int) ≤ (j : Int) - 1 ∧ (j : Int) - 1 < L.length := by omega
            have jb1 : (j : Int) - 1 < L.length := by omega
            have ST := Lib.hid (by have := ST.out; rw [AH.out] at this; exact this)
            clear jz hi gq
            cases h1 : Op.bytesLess s.toList q.toList
            · cases h2 : (s.toList == q.toList)
              · have E2 : Hid (ckE L = ckF (ahead L (j + 1)) (L.drop (j + 1))) := Lib.hid (ST.out.trans (if_neg (by simp only [Option.any_some]; unfold sle; rw [h1, h2]; decide)))
                clear ST
                go_wp2_with fail
                go_quiet (fail)
                go_wp2
                go_roundg (L.length - j)
                case measure => exact KG.out
                case rel => exact ⟨j + 1, by go_num, ⟨by omega, by omega⟩, E2, Lib.hid (HB.out.trans (below_drewN (Below.refl _ _) _))⟩
              · have E2 : Hid (ckE L = 51) := Lib.hid (ST.out.trans (if_pos (by simp only [Option.any_some]; unfold sle; rw [h1, h2]; decide)))
                clear ST
                go_wp2_with fail
                go_quiet (fail)
                go_wp2
                exact bodyPost_ret (v := .int .i64 51) (by simp [results, Try.results108, go_sem, *]) rfl ⟨by rw [E2.out], HB.out.trans (below_drewN (Below.refl _ _) _)⟩
            · have E2 : Hid (ckE L = 51) := Lib.hid (ST.out.trans (if_pos (by simp only [Option.any_some]; unfold sle; rw [h1]; rfl)))
              clear ST
              go_wp2_with fail
              go_quiet (fail)
              go_wp2
              exact bodyPost_ret (v := .int .i64 51) (by simp [results, Try.results108, go_sem, *]) rfl ⟨by rw [E2.out], HB.out.trans (below_drewN (Below.refl _ _) _)⟩
      · have E2 : Hid (ckE L = 0) := Lib.hid (by rw [hE.out, List.drop_eq_nil_of_le (by omega)]; rfl)
        go_wp2
        exact bodyPost_ret (v := .int .i64 0) (by simp [results, Try.results108, go_sem, *]) rfl ⟨by rw [E2.out], HB.out⟩
set_option maxRecDepth 100000 in
set_option maxHeartbeats 3200000 in
theorem rhas_any (v : Value) (L : List Bs) (x : Bs) (w : World) (hr : Rs w v L) (hn : L.length ≤ 100000) :
    Calls Try.prog 191 #[v, .string x] w fun e w' => e = .returned (.bool (decide (x ∈ L))) ∧ w = w' := by
  obtain ⟨ao, cp, rfl, _, hc⟩ := hr
  have HC := Lib.hid hc
  clear hc
  go_enter Try.func191, Try.ntmps191
  go_wp2_with fail
  go_loopg [5] (L.length + 1) (fun gh v8 wr => ∃ j : Nat, v8 = .int .i64 j ∧ (j ≤ L.length ∧ L.length - j < gh) ∧ Hid (x ∉ L.take j) ∧ wr = w)
  case atStart => exact ⟨0, rfl, ⟨by omega, by omega⟩, Lib.hid (by simp), rfl⟩
  case round =>
    obtain ⟨j, rfl, ⟨j0, jg⟩, hE, rfl⟩ := hrel
    have KG := Lib.hid jg
    clear jg
    by_cases hj : j < L.length
    · obtain ⟨s, hs⟩ : ∃ s, L[j]? = some s := ⟨L[j], List.getElem?_eq_getElem hj⟩
      obtain ⟨b, o, rfl, _, cs⟩ := HC.out.resolve_left (by omega)
      have p0 := cs j s hs
      have FS := Lib.hid hs
      have jw : IntKind.i64.wrap ((j : Int) + 1) = (j : Int) + 1 := IntWalk.i64_in _ (by omega)
      clear hs cs
      by_cases z : s = x
      · have z' : (s.toList == x.toList) = true := (seq_iff s x).2 z
        have E : Hid (x ∈ L) := Lib.hid (z ▸ List.mem_of_getElem? FS.out)
        clear z
        go_wp2
        exact bodyPost_ret (v := .bool true) (by simp [results, Try.results191, go_sem, *]) rfl ⟨by simp [E.out], rfl⟩
      · have z' : (s.toList == x.toList) = false := by
          have : ¬ (s.toList == x.toList) = true := fun h => z ((seq_iff s x).1 h)
          simpa using this
        have E : Hid (x ∉ L.take (j + 1)) := Lib.hid (by
          rw [List.take_add_one, FS.out]
          intro hx
          rcases List.mem_append.1 hx with h | h
          · exact hE.out h
          · simp at h; exact z h.symm)
        clear z hE
        go_wp2_with fail
        go_roundg (L.length - j)
        case measure => exact KG.out
        case rel => exact ⟨j + 1, by go_num, ⟨by omega, by omega⟩, E, rfl⟩
    · have E : Hid (x ∉ L) := Lib.hid (by
        have h := hE.out
        rwa [List.take_of_length_le (by omega)] at h)
      go_wp2
      exact bodyPost_ret (v := .bool false) (by simp [results, Try.results191, go_sem, *]) rfl ⟨by simp [E.out], rfl⟩
set_option maxRecDepth 100000 in
theorem rlimited_any (ao : Option Addr) (n cap : Nat) (w : World) (hn : n ≤ 5000) :
    Calls Try.prog 189 #[.slice ao n cap] w fun e w' => e = .returned (.tuple #[.slice ao n cap, .int .i64 0]) ∧ w = w' := by
  have b' : ¬ (5000 : Int) < (n : Int) := by omega
  go_enter Try.func189, Try.ntmps189
  go_wp2
  exact bodyPost_ret (v := .tuple #[.slice ao n cap, .int .i64 0]) (by simp [results, Try.results189, go_sem, *]) rfl ⟨rfl, rfl⟩
/-- the error of keys and a key -/
def oneE (L : List Bs) (k : Bs) : Int := if ckE L = 0 then (if 100 < k.size then 7 else 0) else ckE L
set_option maxRecDepth 100000 in
set_option maxHeartbeats 3200000 in
theorem rone_any (v : Value) (L : List Bs) (k : Bs) (w : World) (hr : Rs w v L) (hn : L.length ≤ 100000) :
    Calls Try.prog 188 #[v, .string k] w fun e w' => e = .returned (.int .i64 (oneE L k)) ∧ Below w.heap.size w w' := by
  have HR := Lib.hid hr
  obtain ⟨ao, cp, rfl, _, _⟩ := hr
  go_enter Try.func188, Try.ntmps188
  go_wp2_with fail
  refine (rck_any _ L _ HR.out hn).mono ?_
  rintro e w1 ⟨rfl, hb⟩
  have HB := Lib.hid hb
  clear hb
  by_cases c : ckE L = 0
  · rw [c]
    by_cases d : 100 < k.size
    · have d' : (100 : Int) < (k.size : Int) := by omega
      have E : Hid (oneE L k = 7) := Lib.hid (by unfold oneE; rw [if_pos c, if_pos d])
      clear c d
      go_wp2
      exact bodyPost_ret (v := .int .i64 7) (by simp [results, Try.results188, go_sem, *]) rfl ⟨by rw [E.out], HB.out⟩
    · have d' : ¬ (100 : Int) < (k.size : Int) := by omega
      have E : Hid (oneE L k = 0) := Lib.hid (by unfold oneE; rw [if_pos c, if_neg d])
      clear c d
      go_wp2
      exact bodyPost_ret (v := .int .i64 0) (by simp [results, Try.results188, go_sem, *]) rfl ⟨by rw [E.out], HB.out⟩
  · have E : Hid (oneE L k = ckE L) := Lib.hid (if_neg c)
    generalize ckE L = er at *
    have c2 : (er != 0) = true := by simp [c]
    go_wp2
    exact bodyPost_ret (v := .int .i64 er) (by simp [results, Try.results188, go_sem, *]) rfl ⟨by rw [E.out], HB.out⟩
end Go.Proofs.Ytcpeailodgoilaa
