/-
  Part 2: IrC.
-/
import Derived.Test.YtcpeailodgoilaaKy1
import Derived.BigQuiet
import Derived.Deep.CutBlock
import Derived.Deep.DeepCutAuto
import Derived.Deep.DeepFit
import Derived.Deep.DrawnRows
import Derived.Deep.LoopGhost
import Derived.Deep.QuietTactic
import Derived.Deep.RegionHeld3
import Derived.Deep.RegionWith
import Derived.Laws.AppendOwn
import Derived.Lib.Hide
import Derived.Maps.AppendAt
import Derived.OwnWalk
import Derived.Shelf.Abstract
import Derived.WalkKit
import Derived.WalkLawsBesides
import Derived.WalkSpells
namespace Go.Proofs.Ytcpeailodgoilaa
open Go.RowKit
theorem i_to_drew {w w' : World} {B : Nat} (h : Below B w w') : Below B w w'.drew := ⟨h.os, h.tape, h.output, h.size, h.block⟩
/-- the rest of a slice of strings -/
theorem Rs.rest {w : World} {b o na ca : Nat} {ao' : Option Addr} {x : Bs} {a : List Bs} (r : Rs w (.slice (some ⟨b, o, none⟩) na ca) (x :: a)) (h : 1 < na → ao' = some ⟨b, o + 1, none⟩) : Rs w (.slice ao' (na - 1) (ca - 1)) a := by
  obtain ⟨ao, cap, e, hc, h'⟩ := r
  cases e
  refine ⟨ao', ca - 1, by simp, by simp at hc; omega, ?_⟩
  by_cases z : a.length = 0
  · exact .inl z
  · obtain ⟨b', o', e, lt, q⟩ := h'.resolve_left (by simp)
    cases e
    refine .inr ⟨b, o + 1, h (by simp; omega), lt, fun j s hs => ?_⟩
    have := q (j + 1) s (by simpa using hs)
    rwa [show o + (j + 1) = o + 1 + j by omega] at this
theorem Rs.head {w : World} {v : Value} {x : Bs} {a : List Bs} (r : Rs w v (x :: a)) : ∃ b o na ca : Nat, v = .slice (some ⟨b, o, none⟩) na ca ∧ na = a.length + 1 ∧ na ≤ ca ∧ b < w.heap.size ∧ w.cell? ⟨b, o, none⟩ = some (.string x) := by
  obtain ⟨ao, cap, e, hc, h⟩ := r
  obtain ⟨b, o, rfl, lt, q⟩ := h.resolve_left (by simp)
  exact ⟨b, o, _, cap, e, by simp, hc, lt, q 0 x rfl⟩
theorem Rs.none {w : World} {v : Value} (r : Rs w v []) : ∃ ao ca, v = .slice ao 0 ca := by
  obtain ⟨ao, cap, e, _, _⟩ := r
  exact ⟨ao, cap, e⟩
/-- what merge returns -/
def MgRet (M : List Bs) (w : World) : Ending → World → Prop := fun e w' => ∃ v, e = .returned v ∧ Hid (w'.ownsRow w.heap.size 9 1 v M.length (M.map Value.string)) ∧ Below w.heap.size w w'
set_option maxRecDepth 100000 in
set_option maxHeartbeats 12800000 in
theorem merge_any (g : Nat) (eg : ∀ args w, (callFunc g args).run Try.prog w = .ok (.enter g args) w) (keep : Bool → Bool → Bool) (hk : Hid (∀ x y w, Calls Try.prog g #[.bool x, .bool y] w fun e w' => e = .returned (.bool (keep x y)) ∧ w = w'))
    (va vb : Value) (A B : List Bs) (w : World) (hra : Rs w va A) (hrb : Rs w vb B) (hn : A.length + B.length ≤ 100000) :
    Calls Try.prog 237 #[va, vb, .func (.func g) #[] #[]] w (MgRet (mg keep A B) w) := by
  obtain ⟨i0, hi, hz0, hz1, hz2⟩ := info_parts Try.infoStr
  have HA := Lib.hid hra
  have HB := Lib.hid hrb
  obtain ⟨a0, c0, rfl, _, _⟩ := hra
  obtain ⟨a1, c1, rfl, _, _⟩ := hrb
  go_enter Try.func237, Try.ntmps237
  go_wp2_with fail
  go_loopg [0, 1, 7, 8, 9, 10] (A.length + B.length + 1) (fun gh v0 v1 v7 _ _ _ wr => ∃ A' B' O : List Bs, (A'.length + B'.length < gh ∧ O.length + A'.length + B'.length ≤ A.length + B.length) ∧ Hid (Below w.heap.size w wr) ∧ Hid (Rs w v0 A') ∧ Hid (Rs w v1 B') ∧ Hid (wr.ownsRow w.heap.size 9 1 v7 O.length (O.map Value.string)) ∧ Hid (mg keep A B = O ++ mg keep A' B'))
  case atStart => exact ⟨A, B, [], ⟨by omega, by simp⟩, Lib.hid (Below.refl _ _), HA, HB, Lib.hid (World.ownsRow_nil _ _ _ _), Lib.hid rfl⟩
  case round =>
    obtain ⟨A', B', O, ⟨hg, hN⟩, BL, RA, RB, OW, ME⟩ := hrel
    have KG := Lib.hid hg
    have KN := Lib.hid hN
    have nO : O.length ≤ 100000 := by omega
    clear hg hN
    obtain ⟨lo, lc, rfl⟩ := i_own_slice OW.out
    match A', B', RA, RB, ME, KG, KN with
    | [], [], RA, RB, ME, KG, KN =>
      obtain ⟨aa, ca, rfl⟩ := RA.out.none
      obtain ⟨ab, cb, rfl⟩ := RB.out.none
      have E : Hid (mg keep A B = O) := Lib.hid (by rw [ME.out]; simp [mg])
      go_wp2
      refine bodyPost_ret (v := .slice lo O.length lc) (by simp [results, Try.results237, go_sem, *]) rfl ⟨_, rfl, ?_, BL.out⟩
      rw [E.out]
      exact OW
    | x :: a, [], RA, RB, ME, KG, KN =>
      as_aux_lemma =>
        obtain ⟨ba, oa, na, ca, rfl, hna, hca, za, ta⟩ := RA.out.head
        have pa := (BL.out.cell (p := ⟨ba, oa, none⟩) za).trans ta
        have PA := Lib.hid pa
        have LA := Lib.hid hna
        have zza : ba < wr.heap.size := Nat.lt_of_lt_of_le za BL.out.size
        have na1 : 0 < na := by omega
        have na2 : (0 : Int) < na := by omega
        have na3 : ¬ na = 0 := by omega
        have na4 : 1 ≤ na := by omega
        have na5 : (1 : Int) ≤ na := by omega
        have na6 : 1 ≤ ca := by omega
        have na7 : ((na : Int) == 0) = false := by simp; omega
        have na8 : decide ((na : Int) = 0) = false := by simp; omega
        have na9 : ¬ ((na : Int) = 0) := by omega
        clear hna ta
        obtain ⟨ab, cb, rfl⟩ := RB.out.none
        clear pa
        have MS : Hid (mg keep (x :: a) [] = opt (keep true false) x ++ mg keep a []) := Lib.hid (by simp [mg])
        go_upto_region 3 with fail
        refine wp_region_held_drew (S := (fun w' => Below wr.heap.size wr w')) (by kernel_rfl) (i_to_drew (Below.refl _ _)) (fun hHeld => ?_)
        obtain ⟨x0, hv0⟩ : ∃ v0, v0 = wr.drew := ⟨_, rfl⟩
        rw [← hv0] at hHeld ⊢
        clear hv0
        refine wpAnyH_take (i := 0) (oi := { dst := some 19, op := Op.move (Operand.tmp 1), type := 99, pos := "keys.go:87", after := #[], guard := none }) (v := ?_) rfl (by kernel_rfl) (by kernel_rfl) (by kernel_rfl) (fun _ _ _ h => h) (Or.inl ⟨by rfl, ?_⟩) (by assumption) ?_
        rotate_left
        · (intro wq hSw; (try dsimp only at hSw);  have pa := (hSw.cell (p := ⟨ba, oa, none⟩) zza).trans PA.out; clear hSw; go_simp; first | done | with_reducible rfl)
        try simp only [Act.put, List.setIfInBounds_toArray, List.set_cons_zero, List.set_cons_succ]
        refine wpAnyH_take (i := 1) (oi := { dst := some 20, op := Op.call { callee := Callee.builtin Builtin.len, args := #[Operand.tmp 19], argTypes := #[99] }, type := 3, pos := "keys.go:87", after := #[{ on := 0, ground := Ground.data }], guard := none }) (v := ?_) rfl (by kernel_rfl) (by kernel_rfl) (by kernel_rfl) (fun _ _ _ h => h) (Or.inl ⟨by rfl, ?_⟩) (by assumption) ?_
        rotate_left
        · (intro wq hSw; (try dsimp only at hSw);  have pa := (hSw.cell (p := ⟨ba, oa, none⟩) zza).trans PA.out; clear hSw; go_simp; first | done | with_reducible rfl)
        try simp only [Act.put, List.setIfInBounds_toArray, List.set_cons_zero, List.set_cons_succ]
        refine wpAnyH_take (i := 2) (oi := { dst := some 21, op := Op.binOp BinOp.eql 3 (Operand.tmp 20) (Operand.const (Value.int IntKind.i64 0)) 3, type := 4, pos := "keys.go:87", after := #[{ on := 1, ground := Ground.data }], guard := none }) (v := ?_) rfl (by kernel_rfl) (by kernel_rfl) (by kernel_rfl) (fun _ _ _ h => h) (Or.inl ⟨by rfl, ?_⟩) (by assumption) ?_
        rotate_left
        · (intro wq hSw; (try dsimp only at hSw);  have pa := (hSw.cell (p := ⟨ba, oa, none⟩) zza).trans PA.out; clear hSw; go_simp; first | done | with_reducible rfl)
        try simp only [Act.put, List.setIfInBounds_toArray, List.set_cons_zero, List.set_cons_succ]
        refine wpAnyH_take (i := 3) (oi := { dst := some 22, op := Op.move (Operand.tmp 21), type := 4, pos := "keys.go:87", after := #[{ on := 2, ground := Ground.data }], guard := none }) (v := ?_) rfl (by kernel_rfl) (by kernel_rfl) (by kernel_rfl) (fun _ _ _ h => h) (Or.inl ⟨by rfl, ?_⟩) (by assumption) ?_
        rotate_left
        · (intro wq hSw; (try dsimp only at hSw);  have pa := (hSw.cell (p := ⟨ba, oa, none⟩) zza).trans PA.out; clear hSw; go_simp; first | done | with_reducible rfl)
        try simp only [Act.put, List.setIfInBounds_toArray, List.set_cons_zero, List.set_cons_succ]
        refine wpAnyH_take (i := 4) (oi := { dst := some 23, op := Op.move (Operand.tmp 0), type := 99, pos := "keys.go:87", after := #[{ on := 3, ground := Ground.guard }], guard := some (3, false) }) (v := undef) rfl (by kernel_rfl) (by kernel_rfl) (by kernel_rfl) (fun _ _ _ h => h) (Or.inr ⟨by rfl, rfl⟩) (by assumption) ?_
        try simp only [Act.put, List.setIfInBounds_toArray, List.set_cons_zero, List.set_cons_succ]
        refine wpAnyH_take (i := 5) (oi := { dst := some 24, op := Op.call { callee := Callee.builtin Builtin.len, args := #[Operand.tmp 23], argTypes := #[99] }, type := 3, pos := "keys.go:87", after := #[{ on := 4, ground := Ground.data }, { on := 3, ground := Ground.guard }], guard := some (3, false) }) (v := undef) rfl (by kernel_rfl) (by kernel_rfl) (by kernel_rfl) (fun _ _ _ h => h) (Or.inr ⟨by rfl, rfl⟩) (by assumption) ?_
        try simp only [Act.put, List.setIfInBounds_toArray, List.set_cons_zero, List.set_cons_succ]
        refine wpAnyH_take (i := 6) (oi := { dst := some 25, op := Op.binOp BinOp.gtr 3 (Operand.tmp 24) (Operand.const (Value.int IntKind.i64 0)) 3, type := 4, pos := "keys.go:87", after := #[{ on := 5, ground := Ground.data }, { on := 3, ground := Ground.guard }], guard := some (3, false) }) (v := undef) rfl (by kernel_rfl) (by kernel_rfl) (by kernel_rfl) (fun _ _ _ h => h) (Or.inr ⟨by rfl, rfl⟩) (by assumption) ?_
        try simp only [Act.put, List.setIfInBounds_toArray, List.set_cons_zero, List.set_cons_succ]
        refine wpAnyH_take (i := 7) (oi := { dst := some 26, op := Op.move (Operand.tmp 25), type := 4, pos := "keys.go:87", after := #[{ on := 6, ground := Ground.data }, { on := 3, ground := Ground.chain }, { on := 3, ground := Ground.guard }], guard := some (3, false) }) (v := undef) rfl (by kernel_rfl) (by kernel_rfl) (by kernel_rfl) (fun _ _ _ h => h) (Or.inr ⟨by rfl, rfl⟩) (by assumption) ?_
        try simp only [Act.put, List.setIfInBounds_toArray, List.set_cons_zero, List.set_cons_succ]
        refine wpAnyH_take (i := 8) (oi := { dst := some 27, op := Op.move (Operand.tmp 0), type := 99, pos := "keys.go:87", after := #[{ on := 7, ground := Ground.guard }], guard := some (7, true) }) (v := undef) rfl (by kernel_rfl) (by kernel_rfl) (by kernel_rfl) (fun _ _ _ h => h) (Or.inr ⟨by rfl, rfl⟩) (by assumption) ?_
        try simp only [Act.put, List.setIfInBounds_toArray, List.set_cons_zero, List.set_cons_succ]
        refine wpAnyH_take (i := 9) (oi := { dst := some 28, op := Op.indexAddr 99 (Operand.tmp 27) (Operand.const (Value.int IntKind.i64 0)), type := 0, pos := "keys.go:87", after := #[{ on := 8, ground := Ground.data }, { on := 7, ground := Ground.guard }], guard := some (7, true) }) (v := undef) rfl (by kernel_rfl) (by kernel_rfl) (by kernel_rfl) (fun _ _ _ h => h) (Or.inr ⟨by rfl, rfl⟩) (by assumption) ?_
        try simp only [Act.put, List.setIfInBounds_toArray, List.set_cons_zero, List.set_cons_succ]
        refine wpAnyH_take (i := 10) (oi := { dst := some 29, op := Op.load 9 (Operand.tmp 28), type := 9, pos := "keys.go:87", after := #[{ on := 9, ground := Ground.data }, { on := 7, ground := Ground.guard }], guard := some (7, true) }) (v := undef) rfl (by kernel_rfl) (by kernel_rfl) (by kernel_rfl) (fun _ _ _ h => h) (Or.inr ⟨by rfl, rfl⟩) (by assumption) ?_
        try simp only [Act.put, List.setIfInBounds_toArray, List.set_cons_zero, List.set_cons_succ]
        refine wpAnyH_take (i := 11) (oi := { dst := some 30, op := Op.move (Operand.tmp 1), type := 99, pos := "keys.go:87", after := #[{ on := 7, ground := Ground.guard }], guard := some (7, true) }) (v := undef) rfl (by kernel_rfl) (by kernel_rfl) (by kernel_rfl) (fun _ _ _ h => h) (Or.inr ⟨by rfl, rfl⟩) (by assumption) ?_
        try simp only [Act.put, List.setIfInBounds_toArray, List.set_cons_zero, List.set_cons_succ]
        refine wpAnyH_take (i := 12) (oi := { dst := some 31, op := Op.indexAddr 99 (Operand.tmp 30) (Operand.const (Value.int IntKind.i64 0)), type := 0, pos := "keys.go:87", after := #[{ on := 11, ground := Ground.data }, { on := 7, ground := Ground.guard }], guard := some (7, true) }) (v := undef) rfl (by kernel_rfl) (by kernel_rfl) (by kernel_rfl) (fun _ _ _ h => h) (Or.inr ⟨by rfl, rfl⟩) (by assumption) ?_
        try simp only [Act.put, List.setIfInBounds_toArray, List.set_cons_zero, List.set_cons_succ]
        refine wpAnyH_take (i := 13) (oi := { dst := some 32, op := Op.load 9 (Operand.tmp 31), type := 9, pos := "keys.go:87", after := #[{ on := 12, ground := Ground.data }, { on := 7, ground := Ground.guard }], guard := some (7, true) }) (v := undef) rfl (by kernel_rfl) (by kernel_rfl) (by kernel_rfl) (fun _ _ _ h => h) (Or.inr ⟨by rfl, rfl⟩) (by assumption) ?_
        try simp only [Act.put, List.setIfInBounds_toArray, List.set_cons_zero, List.set_cons_succ]
        refine wpAnyH_take (i := 14) (oi := { dst := some 33, op := Op.binOp BinOp.leq 9 (Operand.tmp 29) (Operand.tmp 32) 9, type := 4, pos := "keys.go:87", after := #[{ on := 10, ground := Ground.data }, { on := 13, ground := Ground.data }, { on := 7, ground := Ground.guard }], guard := some (7, true) }) (v := undef) rfl (by kernel_rfl) (by kernel_rfl) (by kernel_rfl) (fun _ _ _ h => h) (Or.inr ⟨by rfl, rfl⟩) (by assumption) ?_
        try simp only [Act.put, List.setIfInBounds_toArray, List.set_cons_zero, List.set_cons_succ]
        refine wpAnyH_take (i := 15) (oi := { dst := some 34, op := Op.pick (Operand.tmp 26) (Operand.tmp 33) (Operand.const (Value.bool false)), type := 4, pos := "keys.go:87", after := #[{ on := 7, ground := Ground.data }, { on := 14, ground := Ground.data }, { on := 3, ground := Ground.guard }], guard := some (3, false) }) (v := undef) rfl (by kernel_rfl) (by kernel_rfl) (by kernel_rfl) (fun _ _ _ h => h) (Or.inr ⟨by rfl, rfl⟩) (by assumption) ?_
        try simp only [Act.put, List.setIfInBounds_toArray, List.set_cons_zero, List.set_cons_succ]
        refine wpAnyH_take (i := 16) (oi := { dst := some 35, op := Op.pick (Operand.tmp 22) (Operand.const (Value.bool true)) (Operand.tmp 34), type := 4, pos := "keys.go:87", after := #[{ on := 3, ground := Ground.data }, { on := 15, ground := Ground.data }], guard := none }) (v := ?_) rfl (by kernel_rfl) (by kernel_rfl) (by kernel_rfl) (fun _ _ _ h => h) (Or.inl ⟨by rfl, ?_⟩) (by assumption) ?_
        rotate_left
        · (intro wq hSw; (try dsimp only at hSw);  have pa := (hSw.cell (p := ⟨ba, oa, none⟩) zza).trans PA.out; clear hSw; go_simp; first | done | with_reducible rfl)
        try simp only [Act.put, List.setIfInBounds_toArray, List.set_cons_zero, List.set_cons_succ]
        refine wpAnyH_take (i := 17) (oi := { dst := some 8, op := Op.assign (Operand.tmp 35), type := 4, pos := "keys.go:87", after := #[{ on := 16, ground := Ground.data }, { on := 7, ground := Ground.chain }, { on := 0, ground := Ground.phase }, { on := 1, ground := Ground.phase }, { on := 2, ground := Ground.phase }, { on := 3, ground := Ground.phase }, { on := 4, ground := Ground.phase }, { on := 5, ground := Ground.phase }, { on := 6, ground := Ground.phase }, { on := 7, ground := Ground.phase }, { on := 8, ground := Ground.phase }, { on := 9, ground := Ground.phase }, { on := 10, ground := Ground.phase }, { on := 11, ground := Ground.phase }, { on := 12, ground := Ground.phase }, { on := 13, ground := Ground.phase }, { on := 14, ground := Ground.phase }, { on := 15, ground := Ground.phase }, { on := 16, ground := Ground.phase }], guard := none }) (v := ?_) rfl (by kernel_rfl) (by kernel_rfl) (by kernel_rfl) (fun _ _ _ h => h) (Or.inl ⟨by rfl, ?_⟩) (by assumption) ?_
        rotate_left
        · (intro wq hSw; (try dsimp only at hSw);  have pa := (hSw.cell (p := ⟨ba, oa, none⟩) zza).trans PA.out; clear hSw; go_simp; first | done | with_reducible rfl)
        try simp only [Act.put, List.setIfInBounds_toArray, List.set_cons_zero, List.set_cons_succ]
        refine wpAnyH_done (by kernel_rfl) ?_ _
        have BL := Lib.hid (BL.out.trans (hHeld.mono BL.out.size))
        have OW := Lib.hid (i_own_below OW.out hHeld)
        have PA := Lib.hid ((hHeld.cell (p := ⟨ba, oa, none⟩) zza).trans PA.out)
        have zza : ba < x0.heap.size := Nat.lt_of_lt_of_le zza hHeld.size
        clear hHeld
        go_upto_region 4 with fail
        refine wp_region_held_drew (S := (fun w' => Below x0.heap.size x0 w')) (by kernel_rfl) (i_to_drew (Below.refl _ _)) (fun hHeld => ?_)
        obtain ⟨x1, hv0⟩ : ∃ v0, v0 = x0.drew := ⟨_, rfl⟩
        rw [← hv0] at hHeld ⊢
        clear hv0
        refine wpAnyH_take (i := 0) (oi := { dst := some 36, op := Op.move (Operand.tmp 0), type := 99, pos := "keys.go:88", after := #[], guard := none }) (v := ?_) rfl (by kernel_rfl) (by kernel_rfl) (by kernel_rfl) (fun _ _ _ h => h) (Or.inl ⟨by rfl, ?_⟩) (by assumption) ?_
        rotate_left
        · (intro wq hSw; (try dsimp only at hSw);  have pa := (hSw.cell (p := ⟨ba, oa, none⟩) zza).trans PA.out; clear hSw; go_simp; first | done | with_reducible rfl)
        try simp only [Act.put, List.setIfInBounds_toArray, List.set_cons_zero, List.set_cons_succ]
        refine wpAnyH_take (i := 1) (oi := { dst := some 37, op := Op.call { callee := Callee.builtin Builtin.len, args := #[Operand.tmp 36], argTypes := #[99] }, type := 3, pos := "keys.go:88", after := #[{ on := 0, ground := Ground.data }], guard := none }) (v := ?_) rfl (by kernel_rfl) (by kernel_rfl) (by kernel_rfl) (fun _ _ _ h => h) (Or.inl ⟨by rfl, ?_⟩) (by assumption) ?_
        rotate_left
        · (intro wq hSw; (try dsimp only at hSw);  have pa := (hSw.cell (p := ⟨ba, oa, none⟩) zza).trans PA.out; clear hSw; go_simp; first | done | with_reducible rfl)
        try simp only [Act.put, List.setIfInBounds_toArray, List.set_cons_zero, List.set_cons_succ]
        refine wpAnyH_take (i := 2) (oi := { dst := some 38, op := Op.binOp BinOp.eql 3 (Operand.tmp 37) (Operand.const (Value.int IntKind.i64 0)) 3, type := 4, pos := "keys.go:88", after := #[{ on := 1, ground := Ground.data }], guard := none }) (v := ?_) rfl (by kernel_rfl) (by kernel_rfl) (by kernel_rfl) (fun _ _ _ h => h) (Or.inl ⟨by rfl, ?_⟩) (by assumption) ?_
        rotate_left
        · (intro wq hSw; (try dsimp only at hSw);  have pa := (hSw.cell (p := ⟨ba, oa, none⟩) zza).trans PA.out; clear hSw; go_simp; first | done | with_reducible rfl)
        try simp only [Act.put, List.setIfInBounds_toArray, List.set_cons_zero, List.set_cons_succ]
        refine wpAnyH_take (i := 3) (oi := { dst := some 39, op := Op.move (Operand.tmp 38), type := 4, pos := "keys.go:88", after := #[{ on := 2, ground := Ground.data }], guard := none }) (v := ?_) rfl (by kernel_rfl) (by kernel_rfl) (by kernel_rfl) (fun _ _ _ h => h) (Or.inl ⟨by rfl, ?_⟩) (by assumption) ?_
        rotate_left
        · (intro wq hSw; (try dsimp only at hSw);  have pa := (hSw.cell (p := ⟨ba, oa, none⟩) zza).trans PA.out; clear hSw; go_simp; first | done | with_reducible rfl)
        try simp only [Act.put, List.setIfInBounds_toArray, List.set_cons_zero, List.set_cons_succ]
        refine wpAnyH_take (i := 4) (oi := { dst := some 40, op := Op.move (Operand.tmp 1), type := 99, pos := "keys.go:88", after := #[{ on := 3, ground := Ground.guard }], guard := some (3, false) }) (v := ?_) rfl (by kernel_rfl) (by kernel_rfl) (by kernel_rfl) (fun _ _ _ h => h) (Or.inl ⟨by rfl, ?_⟩) (by assumption) ?_
        rotate_left
        · (intro wq hSw; (try dsimp only at hSw);  have pa := (hSw.cell (p := ⟨ba, oa, none⟩) zza).trans PA.out; clear hSw; go_simp; first | done | with_reducible rfl)
        try simp only [Act.put, List.setIfInBounds_toArray, List.set_cons_zero, List.set_cons_succ]
        refine wpAnyH_take (i := 5) (oi := { dst := some 41, op := Op.call { callee := Callee.builtin Builtin.len, args := #[Operand.tmp 40], argTypes := #[99] }, type := 3, pos := "keys.go:88", after := #[{ on := 4, ground := Ground.data }, { on := 3, ground := Ground.guard }], guard := some (3, false) }) (v := ?_) rfl (by kernel_rfl) (by kernel_rfl) (by kernel_rfl) (fun _ _ _ h => h) (Or.inl ⟨by rfl, ?_⟩) (by assumption) ?_
        rotate_left
        · (intro wq hSw; (try dsimp only at hSw);  have pa := (hSw.cell (p := ⟨ba, oa, none⟩) zza).trans PA.out; clear hSw; go_simp; first | done | with_reducible rfl)
        try simp only [Act.put, List.setIfInBounds_toArray, List.set_cons_zero, List.set_cons_succ]
        refine wpAnyH_take (i := 6) (oi := { dst := some 42, op := Op.binOp BinOp.gtr 3 (Operand.tmp 41) (Operand.const (Value.int IntKind.i64 0)) 3, type := 4, pos := "keys.go:88", after := #[{ on := 5, ground := Ground.data }, { on := 3, ground := Ground.guard }], guard := some (3, false) }) (v := ?_) rfl (by kernel_rfl) (by kernel_rfl) (by kernel_rfl) (fun _ _ _ h => h) (Or.inl ⟨by rfl, ?_⟩) (by assumption) ?_
        rotate_left
        · (intro wq hSw; (try dsimp only at hSw);  have pa := (hSw.cell (p := ⟨ba, oa, none⟩) zza).trans PA.out; clear hSw; go_simp; first | done | with_reducible rfl)
        try simp only [Act.put, List.setIfInBounds_toArray, List.set_cons_zero, List.set_cons_succ]
        refine wpAnyH_take (i := 7) (oi := { dst := some 43, op := Op.move (Operand.tmp 42), type := 4, pos := "keys.go:88", after := #[{ on := 6, ground := Ground.data }, { on := 3, ground := Ground.chain }, { on := 3, ground := Ground.guard }], guard := some (3, false) }) (v := ?_) rfl (by kernel_rfl) (by kernel_rfl) (by kernel_rfl) (fun _ _ _ h => h) (Or.inl ⟨by rfl, ?_⟩) (by assumption) ?_
        rotate_left
        · (intro wq hSw; (try dsimp only at hSw);  have pa := (hSw.cell (p := ⟨ba, oa, none⟩) zza).trans PA.out; clear hSw; go_simp; first | done | with_reducible rfl)
        try simp only [Act.put, List.setIfInBounds_toArray, List.set_cons_zero, List.set_cons_succ]
        refine wpAnyH_take (i := 8) (oi := { dst := some 44, op := Op.move (Operand.tmp 1), type := 99, pos := "keys.go:88", after := #[{ on := 7, ground := Ground.guard }], guard := some (7, true) }) (v := undef) rfl (by kernel_rfl) (by kernel_rfl) (by kernel_rfl) (fun _ _ _ h => h) (Or.inr ⟨by rfl, rfl⟩) (by assumption) ?_
        try simp only [Act.put, List.setIfInBounds_toArray, List.set_cons_zero, List.set_cons_succ]
        refine wpAnyH_take (i := 9) (oi := { dst := some 45, op := Op.indexAddr 99 (Operand.tmp 44) (Operand.const (Value.int IntKind.i64 0)), type := 0, pos := "keys.go:88", after := #[{ on := 8, ground := Ground.data }, { on := 7, ground := Ground.guard }], guard := some (7, true) }) (v := undef) rfl (by kernel_rfl) (by kernel_rfl) (by kernel_rfl) (fun _ _ _ h => h) (Or.inr ⟨by rfl, rfl⟩) (by assumption) ?_
        try simp only [Act.put, List.setIfInBounds_toArray, List.set_cons_zero, List.set_cons_succ]
        refine wpAnyH_take (i := 10) (oi := { dst := some 46, op := Op.load 9 (Operand.tmp 45), type := 9, pos := "keys.go:88", after := #[{ on := 9, ground := Ground.data }, { on := 7, ground := Ground.guard }], guard := some (7, true) }) (v := undef) rfl (by kernel_rfl) (by kernel_rfl) (by kernel_rfl) (fun _ _ _ h => h) (Or.inr ⟨by rfl, rfl⟩) (by assumption) ?_
        try simp only [Act.put, List.setIfInBounds_toArray, List.set_cons_zero, List.set_cons_succ]
        refine wpAnyH_take (i := 11) (oi := { dst := some 47, op := Op.move (Operand.tmp 0), type := 99, pos := "keys.go:88", after := #[{ on := 7, ground := Ground.guard }], guard := some (7, true) }) (v := undef) rfl (by kernel_rfl) (by kernel_rfl) (by kernel_rfl) (fun _ _ _ h => h) (Or.inr ⟨by rfl, rfl⟩) (by assumption) ?_
        try simp only [Act.put, List.setIfInBounds_toArray, List.set_cons_zero, List.set_cons_succ]
        refine wpAnyH_take (i := 12) (oi := { dst := some 48, op := Op.indexAddr 99 (Operand.tmp 47) (Operand.const (Value.int IntKind.i64 0)), type := 0, pos := "keys.go:88", after := #[{ on := 11, ground := Ground.data }, { on := 7, ground := Ground.guard }], guard := some (7, true) }) (v := undef) rfl (by kernel_rfl) (by kernel_rfl) (by kernel_rfl) (fun _ _ _ h => h) (Or.inr ⟨by rfl, rfl⟩) (by assumption) ?_
        try simp only [Act.put, List.setIfInBounds_toArray, List.set_cons_zero, List.set_cons_succ]
        refine wpAnyH_take (i := 13) (oi := { dst := some 49, op := Op.load 9 (Operand.tmp 48), type := 9, pos := "keys.go:88", after := #[{ on := 12, ground := Ground.data }, { on := 7, ground := Ground.guard }], guard := some (7, true) }) (v := undef) rfl (by kernel_rfl) (by kernel_rfl) (by kernel_rfl) (fun _ _ _ h => h) (Or.inr ⟨by rfl, rfl⟩) (by assumption) ?_
        try simp only [Act.put, List.setIfInBounds_toArray, List.set_cons_zero, List.set_cons_succ]
        refine wpAnyH_take (i := 14) (oi := { dst := some 50, op := Op.binOp BinOp.leq 9 (Operand.tmp 46) (Operand.tmp 49) 9, type := 4, pos := "keys.go:88", after := #[{ on := 10, ground := Ground.data }, { on := 13, ground := Ground.data }, { on := 7, ground := Ground.guard }], guard := some (7, true) }) (v := undef) rfl (by kernel_rfl) (by kernel_rfl) (by kernel_rfl) (fun _ _ _ h => h) (Or.inr ⟨by rfl, rfl⟩) (by assumption) ?_
        try simp only [Act.put, List.setIfInBounds_toArray, List.set_cons_zero, List.set_cons_succ]
        refine wpAnyH_take (i := 15) (oi := { dst := some 51, op := Op.pick (Operand.tmp 43) (Operand.tmp 50) (Operand.const (Value.bool false)), type := 4, pos := "keys.go:88", after := #[{ on := 7, ground := Ground.data }, { on := 14, ground := Ground.data }, { on := 3, ground := Ground.guard }], guard := some (3, false) }) (v := ?_) rfl (by kernel_rfl) (by kernel_rfl) (by kernel_rfl) (fun _ _ _ h => h) (Or.inl ⟨by rfl, ?_⟩) (by assumption) ?_
        rotate_left
        · (intro wq hSw; (try dsimp only at hSw);  have pa := (hSw.cell (p := ⟨ba, oa, none⟩) zza).trans PA.out; clear hSw; go_simp; first | done | with_reducible rfl)
        try simp only [Act.put, List.setIfInBounds_toArray, List.set_cons_zero, List.set_cons_succ]
        refine wpAnyH_take (i := 16) (oi := { dst := some 52, op := Op.pick (Operand.tmp 39) (Operand.const (Value.bool true)) (Operand.tmp 51), type := 4, pos := "keys.go:88", after := #[{ on := 3, ground := Ground.data }, { on := 15, ground := Ground.data }], guard := none }) (v := ?_) rfl (by kernel_rfl) (by kernel_rfl) (by kernel_rfl) (fun _ _ _ h => h) (Or.inl ⟨by rfl, ?_⟩) (by assumption) ?_
        rotate_left
        · (intro wq hSw; (try dsimp only at hSw);  have pa := (hSw.cell (p := ⟨ba, oa, none⟩) zza).trans PA.out; clear hSw; go_simp; first | done | with_reducible rfl)
        try simp only [Act.put, List.setIfInBounds_toArray, List.set_cons_zero, List.set_cons_succ]
        refine wpAnyH_take (i := 17) (oi := { dst := some 9, op := Op.assign (Operand.tmp 52), type := 4, pos := "keys.go:88", after := #[{ on := 16, ground := Ground.data }, { on := 7, ground := Ground.chain }, { on := 0, ground := Ground.phase }, { on := 1, ground := Ground.phase }, { on := 2, ground := Ground.phase }, { on := 3, ground := Ground.phase }, { on := 4, ground := Ground.phase }, { on := 5, ground := Ground.phase }, { on := 6, ground := Ground.phase }, { on := 7, ground := Ground.phase }, { on := 8, ground := Ground.phase }, { on := 9, ground := Ground.phase }, { on := 10, ground := Ground.phase }, { on := 11, ground := Ground.phase }, { on := 12, ground := Ground.phase }, { on := 13, ground := Ground.phase }, { on := 14, ground := Ground.phase }, { on := 15, ground := Ground.phase }, { on := 16, ground := Ground.phase }], guard := none }) (v := ?_) rfl (by kernel_rfl) (by kernel_rfl) (by kernel_rfl) (fun _ _ _ h => h) (Or.inl ⟨by rfl, ?_⟩) (by assumption) ?_
        rotate_left
        · (intro wq hSw; (try dsimp only at hSw);  have pa := (hSw.cell (p := ⟨ba, oa, none⟩) zza).trans PA.out; clear hSw; go_simp; first | done | with_reducible rfl)
        try simp only [Act.put, List.setIfInBounds_toArray, List.set_cons_zero, List.set_cons_succ]
        refine wpAnyH_done (by kernel_rfl) ?_ _
        have BL := Lib.hid (BL.out.trans (hHeld.mono BL.out.size))
        have OW := Lib.hid (i_own_below OW.out hHeld)
        have PA := Lib.hid ((hHeld.cell (p := ⟨ba, oa, none⟩) zza).trans PA.out)
        have zza : ba < x1.heap.size := Nat.lt_of_lt_of_le zza hHeld.size
        clear hHeld
        go_upto_region 7 with fail
        refine wp_region_held_drew (S := (fun w' => Below x1.heap.size x1 w')) (by kernel_rfl) (i_to_drew (Below.refl _ _)) (fun hHeld => ?_)
        obtain ⟨x2, hv0⟩ : ∃ v0, v0 = x1.drew := ⟨_, rfl⟩
        rw [← hv0] at hHeld ⊢
        clear hv0
        refine wpAnyH_take (i := 0) (oi := { dst := some 54, op := Op.move (Operand.tmp 0), type := 99, pos := "keys.go:91", after := #[], guard := none }) (v := ?_) rfl (by kernel_rfl) (by kernel_rfl) (by kernel_rfl) (fun _ _ _ h => h) (Or.inl ⟨by rfl, ?_⟩) (by assumption) ?_
        rotate_left
        · (intro wq hSw; (try dsimp only at hSw);  have pa := (hSw.cell (p := ⟨ba, oa, none⟩) zza).trans PA.out; clear hSw; go_simp; first | done | with_reducible rfl)
        try simp only [Act.put, List.setIfInBounds_toArray, List.set_cons_zero, List.set_cons_succ]
        refine wpAnyH_take (i := 1) (oi := { dst := some 55, op := Op.indexAddr 99 (Operand.tmp 54) (Operand.const (Value.int IntKind.i64 0)), type := 0, pos := "keys.go:91", after := #[{ on := 0, ground := Ground.data }], guard := none }) (v := ?_) rfl (by kernel_rfl) (by kernel_rfl) (by kernel_rfl) (fun _ _ _ h => h) (Or.inl ⟨by rfl, ?_⟩) (by assumption) ?_
        rotate_left
        · (intro wq hSw; (try dsimp only at hSw);  have pa := (hSw.cell (p := ⟨ba, oa, none⟩) zza).trans PA.out; clear hSw; go_simp; first | done | with_reducible rfl)
        try simp only [Act.put, List.setIfInBounds_toArray, List.set_cons_zero, List.set_cons_succ]
        refine wpAnyH_take (i := 2) (oi := { dst := some 56, op := Op.load 9 (Operand.tmp 55), type := 9, pos := "keys.go:91", after := #[{ on := 1, ground := Ground.data }], guard := none }) (v := ?_) rfl (by kernel_rfl) (by kernel_rfl) (by kernel_rfl) (fun _ _ _ h => h) (Or.inl ⟨by rfl, ?_⟩) (by assumption) ?_
        rotate_left
        · (intro wq hSw; (try dsimp only at hSw);  have pa := (hSw.cell (p := ⟨ba, oa, none⟩) zza).trans PA.out; clear hSw; go_simp; first | done | with_reducible rfl)
        try simp only [Act.put, List.setIfInBounds_toArray, List.set_cons_zero, List.set_cons_succ]
        refine wpAnyH_take (i := 3) (oi := { dst := some 57, op := Op.move (Operand.tmp 0), type := 99, pos := "keys.go:91", after := #[], guard := none }) (v := ?_) rfl (by kernel_rfl) (by kernel_rfl) (by kernel_rfl) (fun _ _ _ h => h) (Or.inl ⟨by rfl, ?_⟩) (by assumption) ?_
        rotate_left
        · (intro wq hSw; (try dsimp only at hSw);  have pa := (hSw.cell (p := ⟨ba, oa, none⟩) zza).trans PA.out; clear hSw; go_simp; first | done | with_reducible rfl)
        try simp only [Act.put, List.setIfInBounds_toArray, List.set_cons_zero, List.set_cons_succ]
        refine wpAnyH_take (i := 4) (oi := { dst := some 58, op := Op.slice 99 (Operand.tmp 57) (some (Operand.const (Value.int IntKind.i64 1))) none none, type := 99, pos := "keys.go:91", after := #[{ on := 3, ground := Ground.data }], guard := none }) (v := ?_) rfl (by kernel_rfl) (by kernel_rfl) (by kernel_rfl) (fun _ _ _ h => h) (Or.inl ⟨by rfl, ?_⟩) (by assumption) ?_
        rotate_left
        · (intro wq hSw; (try dsimp only at hSw);  have pa := (hSw.cell (p := ⟨ba, oa, none⟩) zza).trans PA.out; clear hSw; go_simp; first | done | with_reducible rfl)
        try simp only [Act.put, List.setIfInBounds_toArray, List.set_cons_zero, List.set_cons_succ]
        refine wpAnyH_take (i := 5) (oi := { dst := some 10, op := Op.assign (Operand.tmp 56), type := 9, pos := "keys.go:91", after := #[{ on := 2, ground := Ground.data }, { on := 0, ground := Ground.phase }, { on := 1, ground := Ground.phase }, { on := 2, ground := Ground.phase }, { on := 3, ground := Ground.textOnly Departure.lateStores }, { on := 4, ground := Ground.textOnly Departure.lateStoresUnsure }], guard := none }) (v := ?_) rfl (by kernel_rfl) (by kernel_rfl) (by kernel_rfl) (fun _ _ _ h => h) (Or.inl ⟨by rfl, ?_⟩) (by assumption) ?_
        rotate_left
        · (intro wq hSw; (try dsimp only at hSw);  have pa := (hSw.cell (p := ⟨ba, oa, none⟩) zza).trans PA.out; clear hSw; go_simp; first | done | with_reducible rfl)
        try simp only [Act.put, List.setIfInBounds_toArray, List.set_cons_zero, List.set_cons_succ]
        refine wpAnyH_take (i := 6) (oi := { dst := some 0, op := Op.assign (Operand.tmp 58), type := 99, pos := "keys.go:91", after := #[{ on := 4, ground := Ground.data }, { on := 5, ground := Ground.chain }, { on := 0, ground := Ground.phase }, { on := 1, ground := Ground.phase }, { on := 2, ground := Ground.phase }, { on := 3, ground := Ground.phase }, { on := 4, ground := Ground.phase }, { on := 5, ground := Ground.phase }], guard := none }) (v := ?_) rfl (by kernel_rfl) (by kernel_rfl) (by kernel_rfl) (fun _ _ _ h => h) (Or.inl ⟨by rfl, ?_⟩) (by assumption) ?_
        rotate_left
        · (intro wq hSw; (try dsimp only at hSw);  have pa := (hSw.cell (p := ⟨ba, oa, none⟩) zza).trans PA.out; clear hSw; go_simp; first | done | with_reducible rfl)
        try simp only [Act.put, List.setIfInBounds_toArray, List.set_cons_zero]
        refine wpAnyH_done (by kernel_rfl) ?_ _
        have BL := Lib.hid (BL.out.trans (hHeld.mono BL.out.size))
        have OW := Lib.hid (i_own_below OW.out hHeld)
        have PA := Lib.hid ((hHeld.cell (p := ⟨ba, oa, none⟩) zza).trans PA.out)
        have zza : ba < x2.heap.size := Nat.lt_of_lt_of_le zza hHeld.size
        clear hHeld
        obtain ⟨qa, hqa⟩ : ∃ q, q = (if ca = 1 then some (⟨ba, oa, none⟩ : Addr) else some ⟨ba, oa + 1, none⟩) := ⟨_, rfl⟩
        have RA := Lib.hid (RA.out.rest (ao' := qa) (fun h => by rw [hqa, if_neg (by omega)]))
        rw [← hqa]
        clear hqa
        have KP := hk.out true false x2
        cases hk2 : keep true false
        · rw [hk2] at KP
          have M2 : Hid (mg keep A B = O ++ mg keep a ([] : List Bs)) := Lib.hid (by rw [ME.out, MS.out, hk2]; rfl)
          clear hk2
          go_wp2_with (go_at_fn g; refine KP.mono ?_; rintro e w' ⟨rfl, rfl⟩)
          go_roundg ((x :: a).length + ([] : List Bs).length)
          case measure => exact KG.out
          case rel => exact ⟨a, ([] : List Bs), O, ⟨by first | (simp; done) | (simp; omega), by have := KN.out; simp at this ⊢; omega⟩, BL, RA, RB, OW, M2⟩
        · rw [hk2] at KP
          have M2 : Hid (mg keep A B = (O ++ [x]) ++ mg keep a ([] : List Bs)) := Lib.hid (by rw [ME.out, MS.out, hk2]; simp [opt])
          clear hk2
          have sz := BL.out.size
          go_wp2_with (first | (go_at_fn g; refine KP.mono ?_; rintro e w' ⟨rfl, rfl⟩) | (at_builtin; refine wpList_append_own _ rfl (.tmp 69) (.tmp 71) 99 rfl w.heap.size 9 i0 (.string ⟨#[]⟩) 1 16 Try.underlying99 hi hz0 hz1 hz2 rfl (by decide) _ O.length (O.map Value.string) rfl (OW.out.alloc _) ⟨x2.heap.size, 0, none⟩ 1 1 [.string x] rfl rfl ?c1 ?c2 ?c3 ?c4 ?c5 ?_))
          case c1 => exact cell_one_new _ _ _
          case c2 => intro u hu; simp at hu; subst hu; rfl
          case c3 => unfold maxLen; omega
          case c4 => omega
          case c5 => simp; omega
          intro v2 w2 own2 grow2 _
          have B2 : Hid (Below w.heap.size w w2) := Lib.hid ((BL.out.trans ((Below.refl _ _).alloc sz _)).trans ((Below.refl _ _).grown grow2 (by simp; omega) (fun g hg => (OW.out.lt g hg).1)))
          have O3 : Hid (w2.ownsRow w.heap.size 9 1 v2 (O ++ [x]).length ((O ++ [x]).map Value.string)) := Lib.hid (by
            rw [List.length_append, List.map_append]
            exact own2)
          clear own2 grow2 BL OW
          go_wp2_with fail
          go_roundg ((x :: a).length + ([] : List Bs).length)
          case measure => exact KG.out
          case rel => exact ⟨a, ([] : List Bs), O ++ [x], ⟨by first | (simp; done) | (simp; omega), by have := KN.out; simp at this ⊢; omega⟩, B2, RA, RB, O3, M2⟩
    | [], y :: b, RA, RB, ME, KG, KN =>
      as_aux_lemma =>
        obtain ⟨bb, ob, nb, cb, rfl, hnb, hcb, zb, tb⟩ := RB.out.head
        have pb := (BL.out.cell (p := ⟨bb, ob, none⟩) zb).trans tb
        have PB := Lib.hid pb
        have LB := Lib.hid hnb
        have zzb : bb < wr.heap.size := Nat.lt_of_lt_of_le zb BL.out.size
        have nb1 : 0 < nb := by omega
        have nb2 : (0 : Int) < nb := by omega
        have nb3 : ¬ nb = 0 := by omega
        have nb4 : 1 ≤ nb := by omega
        have nb5 : (1 : Int) ≤ nb := by omega
        have nb6 : 1 ≤ cb := by omega
        have nb7 : ((nb : Int) == 0) = false := by simp; omega
        have nb8 : decide ((nb : Int) = 0) = false := by simp; omega
        have nb9 : ¬ ((nb : Int) = 0) := by omega
        clear hnb tb
        obtain ⟨aa, ca, rfl⟩ := RA.out.none
        clear pb
        have MS : Hid (mg keep [] (y :: b) = opt (keep false true) y ++ mg keep [] b) := Lib.hid (by simp [mg])
        go_upto_region 3 with fail
        refine wp_region_held_drew (S := (fun w' => Below wr.heap.size wr w')) (by kernel_rfl) (i_to_drew (Below.refl _ _)) (fun hHeld => ?_)
        obtain ⟨x0, hv0⟩ : ∃ v0, v0 = wr.drew := ⟨_, rfl⟩
        rw [← hv0] at hHeld ⊢
        clear hv0
        refine wpAnyH_take (i := 0) (oi := { dst := some 19, op := Op.move (Operand.tmp 1), type := 99, pos := "keys.go:87", after := #[], guard := none }) (v := ?_) rfl (by kernel_rfl) (by kernel_rfl) (by kernel_rfl) (fun _ _ _ h => h) (Or.inl ⟨by rfl, ?_⟩) (by assumption) ?_
        rotate_left
        · (intro wq hSw; (try dsimp only at hSw);  have pb := (hSw.cell (p := ⟨bb, ob, none⟩) zzb).trans PB.out; clear hSw; go_simp; first | done | with_reducible rfl)
        try simp only [Act.put, List.setIfInBounds_toArray, List.set_cons_zero, List.set_cons_succ]
        refine wpAnyH_take (i := 1) (oi := { dst := some 20, op := Op.call { callee := Callee.builtin Builtin.len, args := #[Operand.tmp 19], argTypes := #[99] }, type := 3, pos := "keys.go:87", after := #[{ on := 0, ground := Ground.data }], guard := none }) (v := ?_) rfl (by kernel_rfl) (by kernel_rfl) (by kernel_rfl) (fun _ _ _ h => h) (Or.inl ⟨by rfl, ?_⟩) (by assumption) ?_
        rotate_left
        · (intro wq hSw; (try dsimp only at hSw);  have pb := (hSw.cell (p := ⟨bb, ob, none⟩) zzb).trans PB.out; clear hSw; go_simp; first | done | with_reducible rfl)
        try simp only [Act.put, List.setIfInBounds_toArray, List.set_cons_zero, List.set_cons_succ]
        refine wpAnyH_take (i := 2) (oi := { dst := some 21, op := Op.binOp BinOp.eql 3 (Operand.tmp 20) (Operand.const (Value.int IntKind.i64 0)) 3, type := 4, pos := "keys.go:87", after := #[{ on := 1, ground := Ground.data }], guard := none }) (v := ?_) rfl (by kernel_rfl) (by kernel_rfl) (by kernel_rfl) (fun _ _ _ h => h) (Or.inl ⟨by rfl, ?_⟩) (by assumption) ?_
        rotate_left
        · (intro wq hSw; (try dsimp only at hSw);  have pb := (hSw.cell (p := ⟨bb, ob, none⟩) zzb).trans PB.out; clear hSw; go_simp; first | done | with_reducible rfl)
        try simp only [Act.put, List.setIfInBounds_toArray, List.set_cons_zero, List.set_cons_succ]
        refine wpAnyH_take (i := 3) (oi := { dst := some 22, op := Op.move (Operand.tmp 21), type := 4, pos := "keys.go:87", after := #[{ on := 2, ground := Ground.data }], guard := none }) (v := ?_) rfl (by kernel_rfl) (by kernel_rfl) (by kernel_rfl) (fun _ _ _ h => h) (Or.inl ⟨by rfl, ?_⟩) (by assumption) ?_
        rotate_left
        · (intro wq hSw; (try dsimp only at hSw);  have pb := (hSw.cell (p := ⟨bb, ob, none⟩) zzb).trans PB.out; clear hSw; go_simp; first | done | with_reducible rfl)
        try simp only [Act.put, List.setIfInBounds_toArray, List.set_cons_zero, List.set_cons_succ]
        refine wpAnyH_take (i := 4) (oi := { dst := some 23, op := Op.move (Operand.tmp 0), type := 99, pos := "keys.go:87", after := #[{ on := 3, ground := Ground.guard }], guard := some (3, false) }) (v := ?_) rfl (by kernel_rfl) (by kernel_rfl) (by kernel_rfl) (fun _ _ _ h => h) (Or.inl ⟨by rfl, ?_⟩) (by assumption) ?_
        rotate_left
        · (intro wq hSw; (try dsimp only at hSw);  have pb := (hSw.cell (p := ⟨bb, ob, none⟩) zzb).trans PB.out; clear hSw; go_simp; first | done | with_reducible rfl)
        try simp only [Act.put, List.setIfInBounds_toArray, List.set_cons_zero, List.set_cons_succ]
        refine wpAnyH_take (i := 5) (oi := { dst := some 24, op := Op.call { callee := Callee.builtin Builtin.len, args := #[Operand.tmp 23], argTypes := #[99] }, type := 3, pos := "keys.go:87", after := #[{ on := 4, ground := Ground.data }, { on := 3, ground := Ground.guard }], guard := some (3, false) }) (v := ?_) rfl (by kernel_rfl) (by kernel_rfl) (by kernel_rfl) (fun _ _ _ h => h) (Or.inl ⟨by rfl, ?_⟩) (by assumption) ?_
        rotate_left
        · (intro wq hSw; (try dsimp only at hSw);  have pb := (hSw.cell (p := ⟨bb, ob, none⟩) zzb).trans PB.out; clear hSw; go_simp; first | done | with_reducible rfl)
        try simp only [Act.put, List.setIfInBounds_toArray, List.set_cons_zero, List.set_cons_succ]
        refine wpAnyH_take (i := 6) (oi := { dst := some 25, op := Op.binOp BinOp.gtr 3 (Operand.tmp 24) (Operand.const (Value.int IntKind.i64 0)) 3, type := 4, pos := "keys.go:87", after := #[{ on := 5, ground := Ground.data }, { on := 3, ground := Ground.guard }], guard := some (3, false) }) (v := ?_) rfl (by kernel_rfl) (by kernel_rfl) (by kernel_rfl) (fun _ _ _ h => h) (Or.inl ⟨by rfl, ?_⟩) (by assumption) ?_
        rotate_left
        · (intro wq hSw; (try dsimp only at hSw);  have pb := (hSw.cell (p := ⟨bb, ob, none⟩) zzb).trans PB.out; clear hSw; go_simp; first | done | with_reducible rfl)
        try simp only [Act.put, List.setIfInBounds_toArray, List.set_cons_zero, List.set_cons_succ]
        refine wpAnyH_take (i := 7) (oi := { dst := some 26, op := Op.move (Operand.tmp 25), type := 4, pos := "keys.go:87", after := #[{ on := 6, ground := Ground.data }, { on := 3, ground := Ground.chain }, { on := 3, ground := Ground.guard }], guard := some (3, false) }) (v := ?_) rfl (by kernel_rfl) (by kernel_rfl) (by kernel_rfl) (fun _ _ _ h => h) (Or.inl ⟨by rfl, ?_⟩) (by assumption) ?_
        rotate_left
        · (intro wq hSw; (try dsimp only at hSw);  have pb := (hSw.cell (p := ⟨bb, ob, none⟩) zzb).trans PB.out; clear hSw; go_simp; first | done | with_reducible rfl)
        try simp only [Act.put, List.setIfInBounds_toArray, List.set_cons_zero, List.set_cons_succ]
        refine wpAnyH_take (i := 8) (oi := { dst := some 27, op := Op.move (Operand.tmp 0), type := 99, pos := "keys.go:87", after := #[{ on := 7, ground := Ground.guard }], guard := some (7, true) }) (v := undef) rfl (by kernel_rfl) (by kernel_rfl) (by kernel_rfl) (fun _ _ _ h => h) (Or.inr ⟨by rfl, rfl⟩) (by assumption) ?_
        try simp only [Act.put, List.setIfInBounds_toArray, List.set_cons_zero, List.set_cons_succ]
        refine wpAnyH_take (i := 9) (oi := { dst := some 28, op := Op.indexAddr 99 (Operand.tmp 27) (Operand.const (Value.int IntKind.i64 0)), type := 0, pos := "keys.go:87", after := #[{ on := 8, ground := Ground.data }, { on := 7, ground := Ground.guard }], guard := some (7, true) }) (v := undef) rfl (by kernel_rfl) (by kernel_rfl) (by kernel_rfl) (fun _ _ _ h => h) (Or.inr ⟨by rfl, rfl⟩) (by assumption) ?_
        try simp only [Act.put, List.setIfInBounds_toArray, List.set_cons_zero, List.set_cons_succ]
        refine wpAnyH_take (i := 10) (oi := { dst := some 29, op := Op.load 9 (Operand.tmp 28), type := 9, pos := "keys.go:87", after := #[{ on := 9, ground := Ground.data }, { on := 7, ground := Ground.guard }], guard := some (7, true) }) (v := undef) rfl (by kernel_rfl) (by kernel_rfl) (by kernel_rfl) (fun _ _ _ h => h) (Or.inr ⟨by rfl, rfl⟩) (by assumption) ?_
        try simp only [Act.put, List.setIfInBounds_toArray, List.set_cons_zero, List.set_cons_succ]
        refine wpAnyH_take (i := 11) (oi := { dst := some 30, op := Op.move (Operand.tmp 1), type := 99, pos := "keys.go:87", after := #[{ on := 7, ground := Ground.guard }], guard := some (7, true) }) (v := undef) rfl (by kernel_rfl) (by kernel_rfl) (by kernel_rfl) (fun _ _ _ h => h) (Or.inr ⟨by rfl, rfl⟩) (by assumption) ?_
        try simp only [Act.put, List.setIfInBounds_toArray, List.set_cons_zero, List.set_cons_succ]
        refine wpAnyH_take (i := 12) (oi := { dst := some 31, op := Op.indexAddr 99 (Operand.tmp 30) (Operand.const (Value.int IntKind.i64 0)), type := 0, pos := "keys.go:87", after := #[{ on := 11, ground := Ground.data }, { on := 7, ground := Ground.guard }], guard := some (7, true) }) (v := undef) rfl (by kernel_rfl) (by kernel_rfl) (by kernel_rfl) (fun _ _ _ h => h) (Or.inr ⟨by rfl, rfl⟩) (by assumption) ?_
        try simp only [Act.put, List.setIfInBounds_toArray, List.set_cons_zero, List.set_cons_succ]
        refine wpAnyH_take (i := 13) (oi := { dst := some 32, op := Op.load 9 (Operand.tmp 31), type := 9, pos := "keys.go:87", after := #[{ on := 12, ground := Ground.data }, { on := 7, ground := Ground.guard }], guard := some (7, true) }) (v := undef) rfl (by kernel_rfl) (by kernel_rfl) (by kernel_rfl) (fun _ _ _ h => h) (Or.inr ⟨by rfl, rfl⟩) (by assumption) ?_
        try simp only [Act.put, List.setIfInBounds_toArray, List.set_cons_zero, List.set_cons_succ]
        refine wpAnyH_take (i := 14) (oi := { dst := some 33, op := Op.binOp BinOp.leq 9 (Operand.tmp 29) (Operand.tmp 32) 9, type := 4, pos := "keys.go:87", after := #[{ on := 10, ground := Ground.data }, { on := 13, ground := Ground.data }, { on := 7, ground := Ground.guard }], guard := some (7, true) }) (v := undef) rfl (by kernel_rfl) (by kernel_rfl) (by kernel_rfl) (fun _ _ _ h => h) (Or.inr ⟨by rfl, rfl⟩) (by assumption) ?_
        try simp only [Act.put, List.setIfInBounds_toArray, List.set_cons_zero, List.set_cons_succ]
        refine wpAnyH_take (i := 15) (oi := { dst := some 34, op := Op.pick (Operand.tmp 26) (Operand.tmp 33) (Operand.const (Value.bool false)), type := 4, pos := "keys.go:87", after := #[{ on := 7, ground := Ground.data }, { on := 14, ground := Ground.data }, { on := 3, ground := Ground.guard }], guard := some (3, false) }) (v := ?_) rfl (by kernel_rfl) (by kernel_rfl) (by kernel_rfl) (fun _ _ _ h => h) (Or.inl ⟨by rfl, ?_⟩) (by assumption) ?_
        rotate_left
        · (intro wq hSw; (try dsimp only at hSw);  have pb := (hSw.cell (p := ⟨bb, ob, none⟩) zzb).trans PB.out; clear hSw; go_simp; first | done | with_reducible rfl)
        try simp only [Act.put, List.setIfInBounds_toArray, List.set_cons_zero, List.set_cons_succ]
        refine wpAnyH_take (i := 16) (oi := { dst := some 35, op := Op.pick (Operand.tmp 22) (Operand.const (Value.bool true)) (Operand.tmp 34), type := 4, pos := "keys.go:87", after := #[{ on := 3, ground := Ground.data }, { on := 15, ground := Ground.data }], guard := none }) (v := ?_) rfl (by kernel_rfl) (by kernel_rfl) (by kernel_rfl) (fun _ _ _ h => h) (Or.inl ⟨by rfl, ?_⟩) (by assumption) ?_
        rotate_left
        · (intro wq hSw; (try dsimp only at hSw);  have pb := (hSw.cell (p := ⟨bb, ob, none⟩) zzb).trans PB.out; clear hSw; go_simp; first | done | with_reducible rfl)
        try simp only [Act.put, List.setIfInBounds_toArray, List.set_cons_zero, List.set_cons_succ]
        refine wpAnyH_take (i := 17) (oi := { dst := some 8, op := Op.assign (Operand.tmp 35), type := 4, pos := "keys.go:87", after := #[{ on := 16, ground := Ground.data }, { on := 7, ground := Ground.chain }, { on := 0, ground := Ground.phase }, { on := 1, ground := Ground.phase }, { on := 2, ground := Ground.phase }, { on := 3, ground := Ground.phase }, { on := 4, ground := Ground.phase }, { on := 5, ground := Ground.phase }, { on := 6, ground := Ground.phase }, { on := 7, ground := Ground.phase }, { on := 8, ground := Ground.phase }, { on := 9, ground := Ground.phase }, { on := 10, ground := Ground.phase }, { on := 11, ground := Ground.phase }, { on := 12, ground := Ground.phase }, { on := 13, ground := Ground.phase }, { on := 14, ground := Ground.phase }, { on := 15, ground := Ground.phase }, { on := 16, ground := Ground.phase }], guard := none }) (v := ?_) rfl (by kernel_rfl) (by kernel_rfl) (by kernel_rfl) (fun _ _ _ h => h) (Or.inl ⟨by rfl, ?_⟩) (by assumption) ?_
        rotate_left
        · (intro wq hSw; (try dsimp only at hSw);  have pb := (hSw.cell (p := ⟨bb, ob, none⟩) zzb).trans PB.out; clear hSw; go_simp; first | done | with_reducible rfl)
        try simp only [Act.put, List.setIfInBounds_toArray, List.set_cons_zero, List.set_cons_succ]
        refine wpAnyH_done (by kernel_rfl) ?_ _
        have BL := Lib.hid (BL.out.trans (hHeld.mono BL.out.size))
        have OW := Lib.hid (i_own_below OW.out hHeld)
        have PB := Lib.hid ((hHeld.cell (p := ⟨bb, ob, none⟩) zzb).trans PB.out)
        have zzb : bb < x0.heap.size := Nat.lt_of_lt_of_le zzb hHeld.size
        clear hHeld
        go_upto_region 4 with fail
        refine wp_region_held_drew (S := (fun w' => Below x0.heap.size x0 w')) (by kernel_rfl) (i_to_drew (Below.refl _ _)) (fun hHeld => ?_)
        obtain ⟨x1, hv0⟩ : ∃ v0, v0 = x0.drew := ⟨_, rfl⟩
        rw [← hv0] at hHeld ⊢
        clear hv0
        refine wpAnyH_take (i := 0) (oi := { dst := some 36, op := Op.move (Operand.tmp 0), type := 99, pos := "keys.go:88", after := #[], guard := none }) (v := ?_) rfl (by kernel_rfl) (by kernel_rfl) (by kernel_rfl) (fun _ _ _ h => h) (Or.inl ⟨by rfl, ?_⟩) (by assumption) ?_
        rotate_left
        · (intro wq hSw; (try dsimp only at hSw);  have pb := (hSw.cell (p := ⟨bb, ob, none⟩) zzb).trans PB.out; clear hSw; go_simp; first | done | with_reducible rfl)
        try simp only [Act.put, List.setIfInBounds_toArray, List.set_cons_zero, List.set_cons_succ]
        refine wpAnyH_take (i := 1) (oi := { dst := some 37, op := Op.call { callee := Callee.builtin Builtin.len, args := #[Operand.tmp 36], argTypes := #[99] }, type := 3, pos := "keys.go:88", after := #[{ on := 0, ground := Ground.data }], guard := none }) (v := ?_) rfl (by kernel_rfl) (by kernel_rfl) (by kernel_rfl) (fun _ _ _ h => h) (Or.inl ⟨by rfl, ?_⟩) (by assumption) ?_
        rotate_left
        · (intro wq hSw; (try dsimp only at hSw);  have pb := (hSw.cell (p := ⟨bb, ob, none⟩) zzb).trans PB.out; clear hSw; go_simp; first | done | with_reducible rfl)
        try simp only [Act.put, List.setIfInBounds_toArray, List.set_cons_zero, List.set_cons_succ]
        refine wpAnyH_take (i := 2) (oi := { dst := some 38, op := Op.binOp BinOp.eql 3 (Operand.tmp 37) (Operand.const (Value.int IntKind.i64 0)) 3, type := 4, pos := "keys.go:88", after := #[{ on := 1, ground := Ground.data }], guard := none }) (v := ?_) rfl (by kernel_rfl) (by kernel_rfl) (by kernel_rfl) (fun _ _ _ h => h) (Or.inl ⟨by rfl, ?_⟩) (by assumption) ?_
        rotate_left
        · (intro wq hSw; (try dsimp only at hSw);  have pb := (hSw.cell (p := ⟨bb, ob, none⟩) zzb).trans PB.out; clear hSw; go_simp; first | done | with_reducible rfl)
        try simp only [Act.put, List.setIfInBounds_toArray, List.set_cons_zero, List.set_cons_succ]
        refine wpAnyH_take (i := 3) (oi := { dst := some 39, op := Op.move (Operand.tmp 38), type := 4, pos := "keys.go:88", after := #[{ on := 2, ground := Ground.data }], guard := none }) (v := ?_) rfl (by kernel_rfl) (by kernel_rfl) (by kernel_rfl) (fun _ _ _ h => h) (Or.inl ⟨by rfl, ?_⟩) (by assumption) ?_
        rotate_left
        · (intro wq hSw; (try dsimp only at hSw);  have pb := (hSw.cell (p := ⟨bb, ob, none⟩) zzb).trans PB.out; clear hSw; go_simp; first | done | with_reducible rfl)
        try simp only [Act.put, List.setIfInBounds_toArray, List.set_cons_zero, List.set_cons_succ]
        refine wpAnyH_take (i := 4) (oi := { dst := some 40, op := Op.move (Operand.tmp 1), type := 99, pos := "keys.go:88", after := #[{ on := 3, ground := Ground.guard }], guard := some (3, false) }) (v := undef) rfl (by kernel_rfl) (by kernel_rfl) (by kernel_rfl) (fun _ _ _ h => h) (Or.inr ⟨by rfl, rfl⟩) (by assumption) ?_
        try simp only [Act.put, List.setIfInBounds_toArray, List.set_cons_zero, List.set_cons_succ]
        refine wpAnyH_take (i := 5) (oi := { dst := some 41, op := Op.call { callee := Callee.builtin Builtin.len, args := #[Operand.tmp 40], argTypes := #[99] }, type := 3, pos := "keys.go:88", after := #[{ on := 4, ground := Ground.data }, { on := 3, ground := Ground.guard }], guard := some (3, false) }) (v := undef) rfl (by kernel_rfl) (by kernel_rfl) (by kernel_rfl) (fun _ _ _ h => h) (Or.inr ⟨by rfl, rfl⟩) (by assumption) ?_
        try simp only [Act.put, List.setIfInBounds_toArray, List.set_cons_zero, List.set_cons_succ]
        refine wpAnyH_take (i := 6) (oi := { dst := some 42, op := Op.binOp BinOp.gtr 3 (Operand.tmp 41) (Operand.const (Value.int IntKind.i64 0)) 3, type := 4, pos := "keys.go:88", after := #[{ on := 5, ground := Ground.data }, { on := 3, ground := Ground.guard }], guard := some (3, false) }) (v := undef) rfl (by kernel_rfl) (by kernel_rfl) (by kernel_rfl) (fun _ _ _ h => h) (Or.inr ⟨by rfl, rfl⟩) (by assumption) ?_
        try simp only [Act.put, List.setIfInBounds_toArray, List.set_cons_zero, List.set_cons_succ]
        refine wpAnyH_take (i := 7) (oi := { dst := some 43, op := Op.move (Operand.tmp 42), type := 4, pos := "keys.go:88", after := #[{ on := 6, ground := Ground.data }, { on := 3, ground := Ground.chain }, { on := 3, ground := Ground.guard }], guard := some (3, false) }) (v := undef) rfl (by kernel_rfl) (by kernel_rfl) (by kernel_rfl) (fun _ _ _ h => h) (Or.inr ⟨by rfl, rfl⟩) (by assumption) ?_
        try simp only [Act.put, List.setIfInBounds_toArray, List.set_cons_zero, List.set_cons_succ]
        refine wpAnyH_take (i := 8) (oi := { dst := some 44, op := Op.move (Operand.tmp 1), type := 99, pos := "keys.go:88", after := #[{ on := 7, ground := Ground.guard }], guard := some (7, true) }) (v := undef) rfl (by kernel_rfl) (by kernel_rfl) (by kernel_rfl) (fun _ _ _ h => h) (Or.inr ⟨by rfl, rfl⟩) (by assumption) ?_
        try simp only [Act.put, List.setIfInBounds_toArray, List.set_cons_zero, List.set_cons_succ]
        refine wpAnyH_take (i := 9) (oi := { dst := some 45, op := Op.indexAddr 99 (Operand.tmp 44) (Operand.const (Value.int IntKind.i64 0)), type := 0, pos := "keys.go:88", after := #[{ on := 8, ground := Ground.data }, { on := 7, ground := Ground.guard }], guard := some (7, true) }) (v := undef) rfl (by kernel_rfl) (by kernel_rfl) (by kernel_rfl) (fun _ _ _ h => h) (Or.inr ⟨by rfl, rfl⟩) (by assumption) ?_
        try simp only [Act.put, List.setIfInBounds_toArray, List.set_cons_zero, List.set_cons_succ]
        refine wpAnyH_take (i := 10) (oi := { dst := some 46, op := Op.load 9 (Operand.tmp 45), type := 9, pos := "keys.go:88", after := #[{ on := 9, ground := Ground.data }, { on := 7, ground := Ground.guard }], guard := some (7, true) }) (v := undef) rfl (by kernel_rfl) (by kernel_rfl) (by kernel_rfl) (fun _ _ _ h => h) (Or.inr ⟨by rfl, rfl⟩) (by assumption) ?_
        try simp only [Act.put, List.setIfInBounds_toArray, List.set_cons_zero, List.set_cons_succ]
        refine wpAnyH_take (i := 11) (oi := { dst := some 47, op := Op.move (Operand.tmp 0), type := 99, pos := "keys.go:88", after := #[{ on := 7, ground := Ground.guard }], guard := some (7, true) }) (v := undef) rfl (by kernel_rfl) (by kernel_rfl) (by kernel_rfl) (fun _ _ _ h => h) (Or.inr ⟨by rfl, rfl⟩) (by assumption) ?_
        try simp only [Act.put, List.setIfInBounds_toArray, List.set_cons_zero, List.set_cons_succ]
        refine wpAnyH_take (i := 12) (oi := { dst := some 48, op := Op.indexAddr 99 (Operand.tmp 47) (Operand.const (Value.int IntKind.i64 0)), type := 0, pos := "keys.go:88", after := #[{ on := 11, ground := Ground.data }, { on := 7, ground := Ground.guard }], guard := some (7, true) }) (v := undef) rfl (by kernel_rfl) (by kernel_rfl) (by kernel_rfl) (fun _ _ _ h => h) (Or.inr ⟨by rfl, rfl⟩) (by assumption) ?_
        try simp only [Act.put, List.setIfInBounds_toArray, List.set_cons_zero, List.set_cons_succ]
        refine wpAnyH_take (i := 13) (oi := { dst := some 49, op := Op.load 9 (Operand.tmp 48), type := 9, pos := "keys.go:88", after := #[{ on := 12, ground := Ground.data }, { on := 7, ground := Ground.guard }], guard := some (7, true) }) (v := undef) rfl (by kernel_rfl) (by kernel_rfl) (by kernel_rfl) (fun _ _ _ h => h) (Or.inr ⟨by rfl, rfl⟩) (by assumption) ?_
        try simp only [Act.put, List.setIfInBounds_toArray, List.set_cons_zero, List.set_cons_succ]
        refine wpAnyH_take (i := 14) (oi := { dst := some 50, op := Op.binOp BinOp.leq 9 (Operand.tmp 46) (Operand.tmp 49) 9, type := 4, pos := "keys.go:88", after := #[{ on := 10, ground := Ground.data }, { on := 13, ground := Ground.data }, { on := 7, ground := Ground.guard }], guard := some (7, true) }) (v := undef) rfl (by kernel_rfl) (by kernel_rfl) (by kernel_rfl) (fun _ _ _ h => h) (Or.inr ⟨by rfl, rfl⟩) (by assumption) ?_
        try simp only [Act.put, List.setIfInBounds_toArray, List.set_cons_zero, List.set_cons_succ]
        refine wpAnyH_take (i := 15) (oi := { dst := some 51, op := Op.pick (Operand.tmp 43) (Operand.tmp 50) (Operand.const (Value.bool false)), type := 4, pos := "keys.go:88", after := #[{ on := 7, ground := Ground.data }, { on := 14, ground := Ground.data }, { on := 3, ground := Ground.guard }], guard := some (3, false) }) (v := undef) rfl (by kernel_rfl) (by kernel_rfl) (by kernel_rfl) (fun _ _ _ h => h) (Or.inr ⟨by rfl, rfl⟩) (by assumption) ?_
        try simp only [Act.put, List.setIfInBounds_toArray, List.set_cons_zero, List.set_cons_succ]
        refine wpAnyH_take (i := 16) (oi := { dst := some 52, op := Op.pick (Operand.tmp 39) (Operand.const (Value.bool true)) (Operand.tmp 51), type := 4, pos := "keys.go:88", after := #[{ on := 3, ground := Ground.data }, { on := 15, ground := Ground.data }], guard := none }) (v := ?_) rfl (by kernel_rfl) (by kernel_rfl) (by kernel_rfl) (fun _ _ _ h => h) (Or.inl ⟨by rfl, ?_⟩) (by assumption) ?_
        rotate_left
        · (intro wq hSw; (try dsimp only at hSw);  have pb := (hSw.cell (p := ⟨bb, ob, none⟩) zzb).trans PB.out; clear hSw; go_simp; first | done | with_reducible rfl)
        try simp only [Act.put, List.setIfInBounds_toArray, List.set_cons_zero, List.set_cons_succ]
        refine wpAnyH_take (i := 17) (oi := { dst := some 9, op := Op.assign (Operand.tmp 52), type := 4, pos := "keys.go:88", after := #[{ on := 16, ground := Ground.data }, { on := 7, ground := Ground.chain }, { on := 0, ground := Ground.phase }, { on := 1, ground := Ground.phase }, { on := 2, ground := Ground.phase }, { on := 3, ground := Ground.phase }, { on := 4, ground := Ground.phase }, { on := 5, ground := Ground.phase }, { on := 6, ground := Ground.phase }, { on := 7, ground := Ground.phase }, { on := 8, ground := Ground.phase }, { on := 9, ground := Ground.phase }, { on := 10, ground := Ground.phase }, { on := 11, ground := Ground.phase }, { on := 12, ground := Ground.phase }, { on := 13, ground := Ground.phase }, { on := 14, ground := Ground.phase }, { on := 15, ground := Ground.phase }, { on := 16, ground := Ground.phase }], guard := none }) (v := ?_) rfl (by kernel_rfl) (by kernel_rfl) (by kernel_rfl) (fun _ _ _ h => h) (Or.inl ⟨by rfl, ?_⟩) (by assumption) ?_
        rotate_left
        · (intro wq hSw; (try dsimp only at hSw);  have pb := (hSw.cell (p := ⟨bb, ob, none⟩) zzb).trans PB.out; clear hSw; go_simp; first | done | with_reducible rfl)
        try simp only [Act.put, List.setIfInBounds_toArray, List.set_cons_zero, List.set_cons_succ]
        refine wpAnyH_done (by kernel_rfl) ?_ _
        have BL := Lib.hid (BL.out.trans (hHeld.mono BL.out.size))
        have OW := Lib.hid (i_own_below OW.out hHeld)
        have PB := Lib.hid ((hHeld.cell (p := ⟨bb, ob, none⟩) zzb).trans PB.out)
        have zzb : bb < x1.heap.size := Nat.lt_of_lt_of_le zzb hHeld.size
        clear hHeld
        go_upto_region 9 with fail
        refine wp_region_held_drew (S := (fun w' => Below x1.heap.size x1 w')) (by kernel_rfl) (i_to_drew (Below.refl _ _)) (fun hHeld => ?_)
        obtain ⟨x2, hv0⟩ : ∃ v0, v0 = x1.drew := ⟨_, rfl⟩
        rw [← hv0] at hHeld ⊢
        clear hv0
        refine wpAnyH_take (i := 0) (oi := { dst := some 60, op := Op.move (Operand.tmp 1), type := 99, pos := "keys.go:94", after := #[], guard := none }) (v := ?_) rfl (by kernel_rfl) (by kernel_rfl) (by kernel_rfl) (fun _ _ _ h => h) (Or.inl ⟨by rfl, ?_⟩) (by assumption) ?_
        rotate_left
        · (intro wq hSw; (try dsimp only at hSw);  have pb := (hSw.cell (p := ⟨bb, ob, none⟩) zzb).trans PB.out; clear hSw; go_simp; first | done | with_reducible rfl)
        try simp only [Act.put, List.setIfInBounds_toArray, List.set_cons_zero, List.set_cons_succ]
        refine wpAnyH_take (i := 1) (oi := { dst := some 61, op := Op.indexAddr 99 (Operand.tmp 60) (Operand.const (Value.int IntKind.i64 0)), type := 0, pos := "keys.go:94", after := #[{ on := 0, ground := Ground.data }], guard := none }) (v := ?_) rfl (by kernel_rfl) (by kernel_rfl) (by kernel_rfl) (fun _ _ _ h => h) (Or.inl ⟨by rfl, ?_⟩) (by assumption) ?_
        rotate_left
        · (intro wq hSw; (try dsimp only at hSw);  have pb := (hSw.cell (p := ⟨bb, ob, none⟩) zzb).trans PB.out; clear hSw; go_simp; first | done | with_reducible rfl)
        try simp only [Act.put, List.setIfInBounds_toArray, List.set_cons_zero, List.set_cons_succ]
        refine wpAnyH_take (i := 2) (oi := { dst := some 62, op := Op.load 9 (Operand.tmp 61), type := 9, pos := "keys.go:94", after := #[{ on := 1, ground := Ground.data }], guard := none }) (v := ?_) rfl (by kernel_rfl) (by kernel_rfl) (by kernel_rfl) (fun _ _ _ h => h) (Or.inl ⟨by rfl, ?_⟩) (by assumption) ?_
        rotate_left
        · (intro wq hSw; (try dsimp only at hSw);  have pb := (hSw.cell (p := ⟨bb, ob, none⟩) zzb).trans PB.out; clear hSw; go_simp; first | done | with_reducible rfl)
        try simp only [Act.put, List.setIfInBounds_toArray, List.set_cons_zero, List.set_cons_succ]
        refine wpAnyH_take (i := 3) (oi := { dst := some 63, op := Op.move (Operand.tmp 1), type := 99, pos := "keys.go:94", after := #[], guard := none }) (v := ?_) rfl (by kernel_rfl) (by kernel_rfl) (by kernel_rfl) (fun _ _ _ h => h) (Or.inl ⟨by rfl, ?_⟩) (by assumption) ?_
        rotate_left
        · (intro wq hSw; (try dsimp only at hSw);  have pb := (hSw.cell (p := ⟨bb, ob, none⟩) zzb).trans PB.out; clear hSw; go_simp; first | done | with_reducible rfl)
        try simp only [Act.put, List.setIfInBounds_toArray, List.set_cons_zero, List.set_cons_succ]
        refine wpAnyH_take (i := 4) (oi := { dst := some 64, op := Op.slice 99 (Operand.tmp 63) (some (Operand.const (Value.int IntKind.i64 1))) none none, type := 99, pos := "keys.go:94", after := #[{ on := 3, ground := Ground.data }], guard := none }) (v := ?_) rfl (by kernel_rfl) (by kernel_rfl) (by kernel_rfl) (fun _ _ _ h => h) (Or.inl ⟨by rfl, ?_⟩) (by assumption) ?_
        rotate_left
        · (intro wq hSw; (try dsimp only at hSw);  have pb := (hSw.cell (p := ⟨bb, ob, none⟩) zzb).trans PB.out; clear hSw; go_simp; first | done | with_reducible rfl)
        try simp only [Act.put, List.setIfInBounds_toArray, List.set_cons_zero, List.set_cons_succ]
        refine wpAnyH_take (i := 5) (oi := { dst := some 10, op := Op.assign (Operand.tmp 62), type := 9, pos := "keys.go:94", after := #[{ on := 2, ground := Ground.data }, { on := 0, ground := Ground.phase }, { on := 1, ground := Ground.phase }, { on := 2, ground := Ground.phase }, { on := 3, ground := Ground.textOnly Departure.lateStores }, { on := 4, ground := Ground.textOnly Departure.lateStoresUnsure }], guard := none }) (v := ?_) rfl (by kernel_rfl) (by kernel_rfl) (by kernel_rfl) (fun _ _ _ h => h) (Or.inl ⟨by rfl, ?_⟩) (by assumption) ?_
        rotate_left
        · (intro wq hSw; (try dsimp only at hSw);  have pb := (hSw.cell (p := ⟨bb, ob, none⟩) zzb).trans PB.out; clear hSw; go_simp; first | done | with_reducible rfl)
        try simp only [Act.put, List.setIfInBounds_toArray, List.set_cons_zero, List.set_cons_succ]
        refine wpAnyH_take (i := 6) (oi := { dst := some 1, op := Op.assign (Operand.tmp 64), type := 99, pos := "keys.go:94", after := #[{ on := 4, ground := Ground.data }, { on := 5, ground := Ground.chain }, { on := 0, ground := Ground.phase }, { on := 1, ground := Ground.phase }, { on := 2, ground := Ground.phase }, { on := 3, ground := Ground.phase }, { on := 4, ground := Ground.phase }, { on := 5, ground := Ground.phase }], guard := none }) (v := ?_) rfl (by kernel_rfl) (by kernel_rfl) (by kernel_rfl) (fun _ _ _ h => h) (Or.inl ⟨by rfl, ?_⟩) (by assumption) ?_
        rotate_left
        · (intro wq hSw; (try dsimp only at hSw);  have pb := (hSw.cell (p := ⟨bb, ob, none⟩) zzb).trans PB.out; clear hSw; go_simp; first | done | with_reducible rfl)
        try simp only [Act.put, List.setIfInBounds_toArray, List.set_cons_zero, List.set_cons_succ]
        refine wpAnyH_done (by kernel_rfl) ?_ _
        have BL := Lib.hid (BL.out.trans (hHeld.mono BL.out.size))
        have OW := Lib.hid (i_own_below OW.out hHeld)
        have PB := Lib.hid ((hHeld.cell (p := ⟨bb, ob, none⟩) zzb).trans PB.out)
        have zzb : bb < x2.heap.size := Nat.lt_of_lt_of_le zzb hHeld.size
        clear hHeld
        obtain ⟨qb, hqb⟩ : ∃ q, q = (if cb = 1 then some (⟨bb, ob, none⟩ : Addr) else some ⟨bb, ob + 1, none⟩) := ⟨_, rfl⟩
        have RB := Lib.hid (RB.out.rest (ao' := qb) (fun h => by rw [hqb, if_neg (by omega)]))
        rw [← hqb]
        clear hqb
        have KP := hk.out false true x2
        cases hk2 : keep false true
        · rw [hk2] at KP
          have M2 : Hid (mg keep A B = O ++ mg keep ([] : List Bs) b) := Lib.hid (by rw [ME.out, MS.out, hk2]; rfl)
          clear hk2
          go_wp2_with (go_at_fn g; refine KP.mono ?_; rintro e w' ⟨rfl, rfl⟩)
          go_roundg (([] : List Bs).length + (y :: b).length)
          case measure => exact KG.out
          case rel => exact ⟨([] : List Bs), b, O, ⟨by first | (simp; done) | (simp; omega), by have := KN.out; simp at this ⊢; omega⟩, BL, RA, RB, OW, M2⟩
        · rw [hk2] at KP
          have M2 : Hid (mg keep A B = (O ++ [y]) ++ mg keep ([] : List Bs) b) := Lib.hid (by rw [ME.out, MS.out, hk2]; simp [opt])
          clear hk2
          have sz := BL.out.size
          go_wp2_with (first | (go_at_fn g; refine KP.mono ?_; rintro e w' ⟨rfl, rfl⟩) | (at_builtin; refine wpList_append_own _ rfl (.tmp 69) (.tmp 71) 99 rfl w.heap.size 9 i0 (.string ⟨#[]⟩) 1 16 Try.underlying99 hi hz0 hz1 hz2 rfl (by decide) _ O.length (O.map Value.string) rfl (OW.out.alloc _) ⟨x2.heap.size, 0, none⟩ 1 1 [.string y] rfl rfl ?c1 ?c2 ?c3 ?c4 ?c5 ?_))
          case c1 => exact cell_one_new _ _ _
          case c2 => intro u hu; simp at hu; subst hu; rfl
          case c3 => unfold maxLen; omega
          case c4 => omega
          case c5 => simp; omega
          intro v2 w2 own2 grow2 _
          have B2 : Hid (Below w.heap.size w w2) := Lib.hid ((BL.out.trans ((Below.refl _ _).alloc sz _)).trans ((Below.refl _ _).grown grow2 (by simp; omega) (fun g hg => (OW.out.lt g hg).1)))
          have O3 : Hid (w2.ownsRow w.heap.size 9 1 v2 (O ++ [y]).length ((O ++ [y]).map Value.string)) := Lib.hid (by
            rw [List.length_append, List.map_append]
            exact own2)
          clear own2 grow2 BL OW
          go_wp2_with fail
          go_roundg (([] : List Bs).length + (y :: b).length)
          case measure => exact KG.out
          case rel => exact ⟨([] : List Bs), b, O ++ [y], ⟨by first | (simp; done) | (simp; omega), by have := KN.out; simp at this ⊢; omega⟩, B2, RA, RB, O3, M2⟩
    | x :: a, y :: b, RA, RB, ME, KG, KN =>
      by_cases c1 : slt x y = true
      · have l1 : Op.bytesLess x.toList y.toList = true := c1
        have l2 : Op.bytesLess y.toList x.toList = false := slt_asymm c1
        have l3 : (y.toList == x.toList) = false := by
          have h := sle_eq y x
          unfold sle at h
          rw [l2, c1] at h
          simpa using h
        as_aux_lemma =>
          obtain ⟨ba, oa, na, ca, rfl, hna, hca, za, ta⟩ := RA.out.head
          have pa := (BL.out.cell (p := ⟨ba, oa, none⟩) za).trans ta
          have PA := Lib.hid pa
          have LA := Lib.hid hna
          have zza : ba < wr.heap.size := Nat.lt_of_lt_of_le za BL.out.size
          have na1 : 0 < na := by omega
          have na2 : (0 : Int) < na := by omega
          have na3 : ¬ na = 0 := by omega
          have na4 : 1 ≤ na := by omega
          have na5 : (1 : Int) ≤ na := by omega
          have na6 : 1 ≤ ca := by omega
          have na7 : ((na : Int) == 0) = false := by simp; omega
          have na8 : decide ((na : Int) = 0) = false := by simp; omega
          have na9 : ¬ ((na : Int) = 0) := by omega
          clear hna ta
          obtain ⟨bb, ob, nb, cb, rfl, hnb, hcb, zb, tb⟩ := RB.out.head
          have pb := (BL.out.cell (p := ⟨bb, ob, none⟩) zb).trans tb
          have PB := Lib.hid pb
          have LB := Lib.hid hnb
          have zzb : bb < wr.heap.size := Nat.lt_of_lt_of_le zb BL.out.size
          have nb1 : 0 < nb := by omega
          have nb2 : (0 : Int) < nb := by omega
          have nb3 : ¬ nb = 0 := by omega
          have nb4 : 1 ≤ nb := by omega
          have nb5 : (1 : Int) ≤ nb := by omega
          have nb6 : 1 ≤ cb := by omega
          have nb7 : ((nb : Int) == 0) = false := by simp; omega
          have nb8 : decide ((nb : Int) = 0) = false := by simp; omega
          have nb9 : ¬ ((nb : Int) = 0) := by omega
          clear hnb tb
          clear pa pb
          have MS : Hid (mg keep (x :: a) (y :: b) = opt (keep true false) x ++ mg keep a (y :: b)) := Lib.hid (by simp [mg, c1])
          go_upto_region 3 with fail
          refine wp_region_held_drew (S := (fun w' => Below wr.heap.size wr w')) (by kernel_rfl) (i_to_drew (Below.refl _ _)) (fun hHeld => ?_)
          obtain ⟨x0, hv0⟩ : ∃ v0, v0 = wr.drew := ⟨_, rfl⟩
          rw [← hv0] at hHeld ⊢
          clear hv0
          refine wpAnyH_take (i := 0) (oi := { dst := some 19, op := Op.move (Operand.tmp 1), type := 99, pos := "keys.go:87", after := #[], guard := none }) (v := ?_) rfl (by kernel_rfl) (by kernel_rfl) (by kernel_rfl) (fun _ _ _ h => h) (Or.inl ⟨by rfl, ?_⟩) (by assumption) ?_
          rotate_left
          · (intro wq hSw; (try dsimp only at hSw);  have pa := (hSw.cell (p := ⟨ba, oa, none⟩) zza).trans PA.out; have pb := (hSw.cell (p := ⟨bb, ob, none⟩) zzb).trans PB.out; clear hSw; go_simp; first | done | with_reducible rfl)
          try simp only [Act.put, List.setIfInBounds_toArray, List.set_cons_zero, List.set_cons_succ]
          refine wpAnyH_take (i := 1) (oi := { dst := some 20, op := Op.call { callee := Callee.builtin Builtin.len, args := #[Operand.tmp 19], argTypes := #[99] }, type := 3, pos := "keys.go:87", after := #[{ on := 0, ground := Ground.data }], guard := none }) (v := ?_) rfl (by kernel_rfl) (by kernel_rfl) (by kernel_rfl) (fun _ _ _ h => h) (Or.inl ⟨by rfl, ?_⟩) (by assumption) ?_
          rotate_left
          · (intro wq hSw; (try dsimp only at hSw);  have pa := (hSw.cell (p := ⟨ba, oa, none⟩) zza).trans PA.out; have pb := (hSw.cell (p := ⟨bb, ob, none⟩) zzb).trans PB.out; clear hSw; go_simp; first | done | with_reducible rfl)
          try simp only [Act.put, List.setIfInBounds_toArray, List.set_cons_zero, List.set_cons_succ]
          refine wpAnyH_take (i := 2) (oi := { dst := some 21, op := Op.binOp BinOp.eql 3 (Operand.tmp 20) (Operand.const (Value.int IntKind.i64 0)) 3, type := 4, pos := "keys.go:87", after := #[{ on := 1, ground := Ground.data }], guard := none }) (v := ?_) rfl (by kernel_rfl) (by kernel_rfl) (by kernel_rfl) (fun _ _ _ h => h) (Or.inl ⟨by rfl, ?_⟩) (by assumption) ?_
          rotate_left
          · (intro wq hSw; (try dsimp only at hSw);  have pa := (hSw.cell (p := ⟨ba, oa, none⟩) zza).trans PA.out; have pb := (hSw.cell (p := ⟨bb, ob, none⟩) zzb).trans PB.out; clear hSw; go_simp; first | done | with_reducible rfl)
          try simp only [Act.put, List.setIfInBounds_toArray, List.set_cons_zero, List.set_cons_succ]
          refine wpAnyH_take (i := 3) (oi := { dst := some 22, op := Op.move (Operand.tmp 21), type := 4, pos := "keys.go:87", after := #[{ on := 2, ground := Ground.data }], guard := none }) (v := ?_) rfl (by kernel_rfl) (by kernel_rfl) (by kernel_rfl) (fun _ _ _ h => h) (Or.inl ⟨by rfl, ?_⟩) (by assumption) ?_
          rotate_left
          · (intro wq hSw; (try dsimp only at hSw);  have pa := (hSw.cell (p := ⟨ba, oa, none⟩) zza).trans PA.out; have pb := (hSw.cell (p := ⟨bb, ob, none⟩) zzb).trans PB.out; clear hSw; go_simp; first | done | with_reducible rfl)
          try simp only [Act.put, List.setIfInBounds_toArray, List.set_cons_zero, List.set_cons_succ]
          refine wpAnyH_take (i := 4) (oi := { dst := some 23, op := Op.move (Operand.tmp 0), type := 99, pos := "keys.go:87", after := #[{ on := 3, ground := Ground.guard }], guard := some (3, false) }) (v := ?_) rfl (by kernel_rfl) (by kernel_rfl) (by kernel_rfl) (fun _ _ _ h => h) (Or.inl ⟨by rfl, ?_⟩) (by assumption) ?_
          rotate_left
          · (intro wq hSw; (try dsimp only at hSw);  have pa := (hSw.cell (p := ⟨ba, oa, none⟩) zza).trans PA.out; have pb := (hSw.cell (p := ⟨bb, ob, none⟩) zzb).trans PB.out; clear hSw; go_simp; first | done | with_reducible rfl)
          try simp only [Act.put, List.setIfInBounds_toArray, List.set_cons_zero, List.set_cons_succ]
          refine wpAnyH_take (i := 5) (oi := { dst := some 24, op := Op.call { callee := Callee.builtin Builtin.len, args := #[Operand.tmp 23], argTypes := #[99] }, type := 3, pos := "keys.go:87", after := #[{ on := 4, ground := Ground.data }, { on := 3, ground := Ground.guard }], guard := some (3, false) }) (v := ?_) rfl (by kernel_rfl) (by kernel_rfl) (by kernel_rfl) (fun _ _ _ h => h) (Or.inl ⟨by rfl, ?_⟩) (by assumption) ?_
          rotate_left
          · (intro wq hSw; (try dsimp only at hSw);  have pa := (hSw.cell (p := ⟨ba, oa, none⟩) zza).trans PA.out; have pb := (hSw.cell (p := ⟨bb, ob, none⟩) zzb).trans PB.out; clear hSw; go_simp; first | done | with_reducible rfl)
          try simp only [Act.put, List.setIfInBounds_toArray, List.set_cons_zero, List.set_cons_succ]
          refine wpAnyH_take (i := 6) (oi := { dst := some 25, op := Op.binOp BinOp.gtr 3 (Operand.tmp 24) (Operand.const (Value.int IntKind.i64 0)) 3, type := 4, pos := "keys.go:87", after := #[{ on := 5, ground := Ground.data }, { on := 3, ground := Ground.guard }], guard := some (3, false) }) (v := ?_) rfl (by kernel_rfl) (by kernel_rfl) (by kernel_rfl) (fun _ _ _ h => h) (Or.inl ⟨by rfl, ?_⟩) (by assumption) ?_
          rotate_left
          · (intro wq hSw; (try dsimp only at hSw);  have pa := (hSw.cell (p := ⟨ba, oa, none⟩) zza).trans PA.out; have pb := (hSw.cell (p := ⟨bb, ob, none⟩) zzb).trans PB.out; clear hSw; go_simp; first | done | with_reducible rfl)
          try simp only [Act.put, List.setIfInBounds_toArray, List.set_cons_zero, List.set_cons_succ]
          refine wpAnyH_take (i := 7) (oi := { dst := some 26, op := Op.move (Operand.tmp 25), type := 4, pos := "keys.go:87", after := #[{ on := 6, ground := Ground.data }, { on := 3, ground := Ground.chain }, { on := 3, ground := Ground.guard }], guard := some (3, false) }) (v := ?_) rfl (by kernel_rfl) (by kernel_rfl) (by kernel_rfl) (fun _ _ _ h => h) (Or.inl ⟨by rfl, ?_⟩) (by assumption) ?_
          rotate_left
          · (intro wq hSw; (try dsimp only at hSw);  have pa := (hSw.cell (p := ⟨ba, oa, none⟩) zza).trans PA.out; have pb := (hSw.cell (p := ⟨bb, ob, none⟩) zzb).trans PB.out; clear hSw; go_simp; first | done | with_reducible rfl)
          try simp only [Act.put, List.setIfInBounds_toArray, List.set_cons_zero, List.set_cons_succ]
          refine wpAnyH_take (i := 8) (oi := { dst := some 27, op := Op.move (Operand.tmp 0), type := 99, pos := "keys.go:87", after := #[{ on := 7, ground := Ground.guard }], guard := some (7, true) }) (v := ?_) rfl (by kernel_rfl) (by kernel_rfl) (by kernel_rfl) (fun _ _ _ h => h) (Or.inl ⟨by rfl, ?_⟩) (by assumption) ?_
          rotate_left
          · (intro wq hSw; (try dsimp only at hSw);  have pa := (hSw.cell (p := ⟨ba, oa, none⟩) zza).trans PA.out; have pb := (hSw.cell (p := ⟨bb, ob, none⟩) zzb).trans PB.out; clear hSw; go_simp; first | done | with_reducible rfl)
          try simp only [Act.put, List.setIfInBounds_toArray, List.set_cons_zero, List.set_cons_succ]
          refine wpAnyH_take (i := 9) (oi := { dst := some 28, op := Op.indexAddr 99 (Operand.tmp 27) (Operand.const (Value.int IntKind.i64 0)), type := 0, pos := "keys.go:87", after := #[{ on := 8, ground := Ground.data }, { on := 7, ground := Ground.guard }], guard := some (7, true) }) (v := ?_) rfl (by kernel_rfl) (by kernel_rfl) (by kernel_rfl) (fun _ _ _ h => h) (Or.inl ⟨by rfl, ?_⟩) (by assumption) ?_
          rotate_left
          · (intro wq hSw; (try dsimp only at hSw);  have pa := (hSw.cell (p := ⟨ba, oa, none⟩) zza).trans PA.out; have pb := (hSw.cell (p := ⟨bb, ob, none⟩) zzb).trans PB.out; clear hSw; go_simp; first | done | with_reducible rfl)
          try simp only [Act.put, List.setIfInBounds_toArray, List.set_cons_zero, List.set_cons_succ]
          refine wpAnyH_take (i := 10) (oi := { dst := some 29, op := Op.load 9 (Operand.tmp 28), type := 9, pos := "keys.go:87", after := #[{ on := 9, ground := Ground.data }, { on := 7, ground := Ground.guard }], guard := some (7, true) }) (v := ?_) rfl (by kernel_rfl) (by kernel_rfl) (by kernel_rfl) (fun _ _ _ h => h) (Or.inl ⟨by rfl, ?_⟩) (by assumption) ?_
          rotate_left
          · (intro wq hSw; (try dsimp only at hSw);  have pa := (hSw.cell (p := ⟨ba, oa, none⟩) zza).trans PA.out; have pb := (hSw.cell (p := ⟨bb, ob, none⟩) zzb).trans PB.out; clear hSw; go_simp; first | done | with_reducible rfl)
          try simp only [Act.put, List.setIfInBounds_toArray, List.set_cons_zero, List.set_cons_succ]
          refine wpAnyH_take (i := 11) (oi := { dst := some 30, op := Op.move (Operand.tmp 1), type := 99, pos := "keys.go:87", after := #[{ on := 7, ground := Ground.guard }], guard := some (7, true) }) (v := ?_) rfl (by kernel_rfl) (by kernel_rfl) (by kernel_rfl) (fun _ _ _ h => h) (Or.inl ⟨by rfl, ?_⟩) (by assumption) ?_
          rotate_left
          · (intro wq hSw; (try dsimp only at hSw);  have pa := (hSw.cell (p := ⟨ba, oa, none⟩) zza).trans PA.out; have pb := (hSw.cell (p := ⟨bb, ob, none⟩) zzb).trans PB.out; clear hSw; go_simp; first | done | with_reducible rfl)
          try simp only [Act.put, List.setIfInBounds_toArray, List.set_cons_zero, List.set_cons_succ]
          refine wpAnyH_take (i := 12) (oi := { dst := some 31, op := Op.indexAddr 99 (Operand.tmp 30) (Operand.const (Value.int IntKind.i64 0)), type := 0, pos := "keys.go:87", after := #[{ on := 11, ground := Ground.data }, { on := 7, ground := Ground.guard }], guard := some (7, true) }) (v := ?_) rfl (by kernel_rfl) (by kernel_rfl) (by kernel_rfl) (fun _ _ _ h => h) (Or.inl ⟨by rfl, ?_⟩) (by assumption) ?_
          rotate_left
          · (intro wq hSw; (try dsimp only at hSw);  have pa := (hSw.cell (p := ⟨ba, oa, none⟩) zza).trans PA.out; have pb := (hSw.cell (p := ⟨bb, ob, none⟩) zzb).trans PB.out; clear hSw; go_simp; first | done | with_reducible rfl)
          try simp only [Act.put, List.setIfInBounds_toArray, List.set_cons_zero, List.set_cons_succ]
          refine wpAnyH_take (i := 13) (oi := { dst := some 32, op := Op.load 9 (Operand.tmp 31), type := 9, pos := "keys.go:87", after := #[{ on := 12, ground := Ground.data }, { on := 7, ground := Ground.guard }], guard := some (7, true) }) (v := ?_) rfl (by kernel_rfl) (by kernel_rfl) (by kernel_rfl) (fun _ _ _ h => h) (Or.inl ⟨by rfl, ?_⟩) (by assumption) ?_
          rotate_left
          · (intro wq hSw; (try dsimp only at hSw);  have pa := (hSw.cell (p := ⟨ba, oa, none⟩) zza).trans PA.out; have pb := (hSw.cell (p := ⟨bb, ob, none⟩) zzb).trans PB.out; clear hSw; go_simp; first | done | with_reducible rfl)
          try simp only [Act.put, List.setIfInBounds_toArray, List.set_cons_zero, List.set_cons_succ]
          refine wpAnyH_take (i := 14) (oi := { dst := some 33, op := Op.binOp BinOp.leq 9 (Operand.tmp 29) (Operand.tmp 32) 9, type := 4, pos := "keys.go:87", after := #[{ on := 10, ground := Ground.data }, { on := 13, ground := Ground.data }, { on := 7, ground := Ground.guard }], guard := some (7, true) }) (v := ?_) rfl (by kernel_rfl) (by kernel_rfl) (by kernel_rfl) (fun _ _ _ h => h) (Or.inl ⟨by rfl, ?_⟩) (by assumption) ?_
          rotate_left
          · (intro wq hSw; (try dsimp only at hSw);  have pa := (hSw.cell (p := ⟨ba, oa, none⟩) zza).trans PA.out; have pb := (hSw.cell (p := ⟨bb, ob, none⟩) zzb).trans PB.out; clear hSw; go_simp; first | done | with_reducible rfl)
          try simp only [Act.put, List.setIfInBounds_toArray, List.set_cons_zero, List.set_cons_succ]
          refine wpAnyH_take (i := 15) (oi := { dst := some 34, op := Op.pick (Operand.tmp 26) (Operand.tmp 33) (Operand.const (Value.bool false)), type := 4, pos := "keys.go:87", after := #[{ on := 7, ground := Ground.data }, { on := 14, ground := Ground.data }, { on := 3, ground := Ground.guard }], guard := some (3, false) }) (v := ?_) rfl (by kernel_rfl) (by kernel_rfl) (by kernel_rfl) (fun _ _ _ h => h) (Or.inl ⟨by rfl, ?_⟩) (by assumption) ?_
          rotate_left
          · (intro wq hSw; (try dsimp only at hSw);  have pa := (hSw.cell (p := ⟨ba, oa, none⟩) zza).trans PA.out; have pb := (hSw.cell (p := ⟨bb, ob, none⟩) zzb).trans PB.out; clear hSw; go_simp; first | done | with_reducible rfl)
          try simp only [Act.put, List.setIfInBounds_toArray, List.set_cons_zero, List.set_cons_succ]
          refine wpAnyH_take (i := 16) (oi := { dst := some 35, op := Op.pick (Operand.tmp 22) (Operand.const (Value.bool true)) (Operand.tmp 34), type := 4, pos := "keys.go:87", after := #[{ on := 3, ground := Ground.data }, { on := 15, ground := Ground.data }], guard := none }) (v := ?_) rfl (by kernel_rfl) (by kernel_rfl) (by kernel_rfl) (fun _ _ _ h => h) (Or.inl ⟨by rfl, ?_⟩) (by assumption) ?_
          rotate_left
          · (intro wq hSw; (try dsimp only at hSw);  have pa := (hSw.cell (p := ⟨ba, oa, none⟩) zza).trans PA.out; have pb := (hSw.cell (p := ⟨bb, ob, none⟩) zzb).trans PB.out; clear hSw; go_simp; first | done | with_reducible rfl)
          try simp only [Act.put, List.setIfInBounds_toArray, List.set_cons_zero, List.set_cons_succ]
          refine wpAnyH_take (i := 17) (oi := { dst := some 8, op := Op.assign (Operand.tmp 35), type := 4, pos := "keys.go:87", after := #[{ on := 16, ground := Ground.data }, { on := 7, ground := Ground.chain }, { on := 0, ground := Ground.phase }, { on := 1, ground := Ground.phase }, { on := 2, ground := Ground.phase }, { on := 3, ground := Ground.phase }, { on := 4, ground := Ground.phase }, { on := 5, ground := Ground.phase }, { on := 6, ground := Ground.phase }, { on := 7, ground := Ground.phase }, { on := 8, ground := Ground.phase }, { on := 9, ground := Ground.phase }, { on := 10, ground := Ground.phase }, { on := 11, ground := Ground.phase }, { on := 12, ground := Ground.phase }, { on := 13, ground := Ground.phase }, { on := 14, ground := Ground.phase }, { on := 15, ground := Ground.phase }, { on := 16, ground := Ground.phase }], guard := none }) (v := ?_) rfl (by kernel_rfl) (by kernel_rfl) (by kernel_rfl) (fun _ _ _ h => h) (Or.inl ⟨by rfl, ?_⟩) (by assumption) ?_
          rotate_left
          · (intro wq hSw; (try dsimp only at hSw);  have pa := (hSw.cell (p := ⟨ba, oa, none⟩) zza).trans PA.out; have pb := (hSw.cell (p := ⟨bb, ob, none⟩) zzb).trans PB.out; clear hSw; go_simp; first | done | with_reducible rfl)
          try simp only [Act.put, List.setIfInBounds_toArray, List.set_cons_zero, List.set_cons_succ]
          refine wpAnyH_done (by kernel_rfl) ?_ _
          have BL := Lib.hid (BL.out.trans (hHeld.mono BL.out.size))
          have OW := Lib.hid (i_own_below OW.out hHeld)
          have PA := Lib.hid ((hHeld.cell (p := ⟨ba, oa, none⟩) zza).trans PA.out)
          have zza : ba < x0.heap.size := Nat.lt_of_lt_of_le zza hHeld.size
          have PB := Lib.hid ((hHeld.cell (p := ⟨bb, ob, none⟩) zzb).trans PB.out)
          have zzb : bb < x0.heap.size := Nat.lt_of_lt_of_le zzb hHeld.size
          clear hHeld
          go_upto_region 4 with fail
          refine wp_region_held_drew (S := (fun w' => Below x0.heap.size x0 w')) (by kernel_rfl) (i_to_drew (Below.refl _ _)) (fun hHeld => ?_)
          obtain ⟨x1, hv0⟩ : ∃ v0, v0 = x0.drew := ⟨_, rfl⟩
          rw [← hv0] at hHeld ⊢
          clear hv0
          refine wpAnyH_take (i := 0) (oi := { dst := some 36, op := Op.move (Operand.tmp 0), type := 99, pos := "keys.go:88", after := #[], guard := none }) (v := ?_) rfl (by kernel_rfl) (by kernel_rfl) (by kernel_rfl) (fun _ _ _ h => h) (Or.inl ⟨by rfl, ?_⟩) (by assumption) ?_
          rotate_left
          · (intro wq hSw; (try dsimp only at hSw);  have pa := (hSw.cell (p := ⟨ba, oa, none⟩) zza).trans PA.out; have pb := (hSw.cell (p := ⟨bb, ob, none⟩) zzb).trans PB.out; clear hSw; go_simp; first | done | with_reducible rfl)
          try simp only [Act.put, List.setIfInBounds_toArray, List.set_cons_zero, List.set_cons_succ]
          refine wpAnyH_take (i := 1) (oi := { dst := some 37, op := Op.call { callee := Callee.builtin Builtin.len, args := #[Operand.tmp 36], argTypes := #[99] }, type := 3, pos := "keys.go:88", after := #[{ on := 0, ground := Ground.data }], guard := none }) (v := ?_) rfl (by kernel_rfl) (by kernel_rfl) (by kernel_rfl) (fun _ _ _ h => h) (Or.inl ⟨by rfl, ?_⟩) (by assumption) ?_
          rotate_left
          · (intro wq hSw; (try dsimp only at hSw);  have pa := (hSw.cell (p := ⟨ba, oa, none⟩) zza).trans PA.out; have pb := (hSw.cell (p := ⟨bb, ob, none⟩) zzb).trans PB.out; clear hSw; go_simp; first | done | with_reducible rfl)
          try simp only [Act.put, List.setIfInBounds_toArray, List.set_cons_zero, List.set_cons_succ]
          refine wpAnyH_take (i := 2) (oi := { dst := some 38, op := Op.binOp BinOp.eql 3 (Operand.tmp 37) (Operand.const (Value.int IntKind.i64 0)) 3, type := 4, pos := "keys.go:88", after := #[{ on := 1, ground := Ground.data }], guard := none }) (v := ?_) rfl (by kernel_rfl) (by kernel_rfl) (by kernel_rfl) (fun _ _ _ h => h) (Or.inl ⟨by rfl, ?_⟩) (by assumption) ?_
          rotate_left
          · (intro wq hSw; (try dsimp only at hSw);  have pa := (hSw.cell (p := ⟨ba, oa, none⟩) zza).trans PA.out; have pb := (hSw.cell (p := ⟨bb, ob, none⟩) zzb).trans PB.out; clear hSw; go_simp; first | done | with_reducible rfl)
          try simp only [Act.put, List.setIfInBounds_toArray, List.set_cons_zero, List.set_cons_succ]
          refine wpAnyH_take (i := 3) (oi := { dst := some 39, op := Op.move (Operand.tmp 38), type := 4, pos := "keys.go:88", after := #[{ on := 2, ground := Ground.data }], guard := none }) (v := ?_) rfl (by kernel_rfl) (by kernel_rfl) (by kernel_rfl) (fun _ _ _ h => h) (Or.inl ⟨by rfl, ?_⟩) (by assumption) ?_
          rotate_left
          · (intro wq hSw; (try dsimp only at hSw);  have pa := (hSw.cell (p := ⟨ba, oa, none⟩) zza).trans PA.out; have pb := (hSw.cell (p := ⟨bb, ob, none⟩) zzb).trans PB.out; clear hSw; go_simp; first | done | with_reducible rfl)
          try simp only [Act.put, List.setIfInBounds_toArray, List.set_cons_zero, List.set_cons_succ]
          refine wpAnyH_take (i := 4) (oi := { dst := some 40, op := Op.move (Operand.tmp 1), type := 99, pos := "keys.go:88", after := #[{ on := 3, ground := Ground.guard }], guard := some (3, false) }) (v := ?_) rfl (by kernel_rfl) (by kernel_rfl) (by kernel_rfl) (fun _ _ _ h => h) (Or.inl ⟨by rfl, ?_⟩) (by assumption) ?_
          rotate_left
          · (intro wq hSw; (try dsimp only at hSw);  have pa := (hSw.cell (p := ⟨ba, oa, none⟩) zza).trans PA.out; have pb := (hSw.cell (p := ⟨bb, ob, none⟩) zzb).trans PB.out; clear hSw; go_simp; first | done | with_reducible rfl)
          try simp only [Act.put, List.setIfInBounds_toArray, List.set_cons_zero, List.set_cons_succ]
          refine wpAnyH_take (i := 5) (oi := { dst := some 41, op := Op.call { callee := Callee.builtin Builtin.len, args := #[Operand.tmp 40], argTypes := #[99] }, type := 3, pos := "keys.go:88", after := #[{ on := 4, ground := Ground.data }, { on := 3, ground := Ground.guard }], guard := some (3, false) }) (v := ?_) rfl (by kernel_rfl) (by kernel_rfl) (by kernel_rfl) (fun _ _ _ h => h) (Or.inl ⟨by rfl, ?_⟩) (by assumption) ?_
          rotate_left
          · (intro wq hSw; (try dsimp only at hSw);  have pa := (hSw.cell (p := ⟨ba, oa, none⟩) zza).trans PA.out; have pb := (hSw.cell (p := ⟨bb, ob, none⟩) zzb).trans PB.out; clear hSw; go_simp; first | done | with_reducible rfl)
          try simp only [Act.put, List.setIfInBounds_toArray, List.set_cons_zero, List.set_cons_succ]
          refine wpAnyH_take (i := 6) (oi := { dst := some 42, op := Op.binOp BinOp.gtr 3 (Operand.tmp 41) (Operand.const (Value.int IntKind.i64 0)) 3, type := 4, pos := "keys.go:88", after := #[{ on := 5, ground := Ground.data }, { on := 3, ground := Ground.guard }], guard := some (3, false) }) (v := ?_) rfl (by kernel_rfl) (by kernel_rfl) (by kernel_rfl) (fun _ _ _ h => h) (Or.inl ⟨by rfl, ?_⟩) (by assumption) ?_
          rotate_left
          · (intro wq hSw; (try dsimp only at hSw);  have pa := (hSw.cell (p := ⟨ba, oa, none⟩) zza).trans PA.out; have pb := (hSw.cell (p := ⟨bb, ob, none⟩) zzb).trans PB.out; clear hSw; go_simp; first | done | with_reducible rfl)
          try simp only [Act.put, List.setIfInBounds_toArray, List.set_cons_zero, List.set_cons_succ]
          refine wpAnyH_take (i := 7) (oi := { dst := some 43, op := Op.move (Operand.tmp 42), type := 4, pos := "keys.go:88", after := #[{ on := 6, ground := Ground.data }, { on := 3, ground := Ground.chain }, { on := 3, ground := Ground.guard }], guard := some (3, false) }) (v := ?_) rfl (by kernel_rfl) (by kernel_rfl) (by kernel_rfl) (fun _ _ _ h => h) (Or.inl ⟨by rfl, ?_⟩) (by assumption) ?_
          rotate_left
          · (intro wq hSw; (try dsimp only at hSw);  have pa := (hSw.cell (p := ⟨ba, oa, none⟩) zza).trans PA.out; have pb := (hSw.cell (p := ⟨bb, ob, none⟩) zzb).trans PB.out; clear hSw; go_simp; first | done | with_reducible rfl)
          try simp only [Act.put, List.setIfInBounds_toArray, List.set_cons_zero, List.set_cons_succ]
          refine wpAnyH_take (i := 8) (oi := { dst := some 44, op := Op.move (Operand.tmp 1), type := 99, pos := "keys.go:88", after := #[{ on := 7, ground := Ground.guard }], guard := some (7, true) }) (v := ?_) rfl (by kernel_rfl) (by kernel_rfl) (by kernel_rfl) (fun _ _ _ h => h) (Or.inl ⟨by rfl, ?_⟩) (by assumption) ?_
          rotate_left
          · (intro wq hSw; (try dsimp only at hSw);  have pa := (hSw.cell (p := ⟨ba, oa, none⟩) zza).trans PA.out; have pb := (hSw.cell (p := ⟨bb, ob, none⟩) zzb).trans PB.out; clear hSw; go_simp; first | done | with_reducible rfl)
          try simp only [Act.put, List.setIfInBounds_toArray, List.set_cons_zero, List.set_cons_succ]
          refine wpAnyH_take (i := 9) (oi := { dst := some 45, op := Op.indexAddr 99 (Operand.tmp 44) (Operand.const (Value.int IntKind.i64 0)), type := 0, pos := "keys.go:88", after := #[{ on := 8, ground := Ground.data }, { on := 7, ground := Ground.guard }], guard := some (7, true) }) (v := ?_) rfl (by kernel_rfl) (by kernel_rfl) (by kernel_rfl) (fun _ _ _ h => h) (Or.inl ⟨by rfl, ?_⟩) (by assumption) ?_
          rotate_left
          · (intro wq hSw; (try dsimp only at hSw);  have pa := (hSw.cell (p := ⟨ba, oa, none⟩) zza).trans PA.out; have pb := (hSw.cell (p := ⟨bb, ob, none⟩) zzb).trans PB.out; clear hSw; go_simp; first | done | with_reducible rfl)
          try simp only [Act.put, List.setIfInBounds_toArray, List.set_cons_zero, List.set_cons_succ]
          refine wpAnyH_take (i := 10) (oi := { dst := some 46, op := Op.load 9 (Operand.tmp 45), type := 9, pos := "keys.go:88", after := #[{ on := 9, ground := Ground.data }, { on := 7, ground := Ground.guard }], guard := some (7, true) }) (v := ?_) rfl (by kernel_rfl) (by kernel_rfl) (by kernel_rfl) (fun _ _ _ h => h) (Or.inl ⟨by rfl, ?_⟩) (by assumption) ?_
          rotate_left
          · (intro wq hSw; (try dsimp only at hSw);  have pa := (hSw.cell (p := ⟨ba, oa, none⟩) zza).trans PA.out; have pb := (hSw.cell (p := ⟨bb, ob, none⟩) zzb).trans PB.out; clear hSw; go_simp; first | done | with_reducible rfl)
          try simp only [Act.put, List.setIfInBounds_toArray, List.set_cons_zero, List.set_cons_succ]
          refine wpAnyH_take (i := 11) (oi := { dst := some 47, op := Op.move (Operand.tmp 0), type := 99, pos := "keys.go:88", after := #[{ on := 7, ground := Ground.guard }], guard := some (7, true) }) (v := ?_) rfl (by kernel_rfl) (by kernel_rfl) (by kernel_rfl) (fun _ _ _ h => h) (Or.inl ⟨by rfl, ?_⟩) (by assumption) ?_
          rotate_left
          · (intro wq hSw; (try dsimp only at hSw);  have pa := (hSw.cell (p := ⟨ba, oa, none⟩) zza).trans PA.out; have pb := (hSw.cell (p := ⟨bb, ob, none⟩) zzb).trans PB.out; clear hSw; go_simp; first | done | with_reducible rfl)
          try simp only [Act.put, List.setIfInBounds_toArray, List.set_cons_zero, List.set_cons_succ]
          refine wpAnyH_take (i := 12) (oi := { dst := some 48, op := Op.indexAddr 99 (Operand.tmp 47) (Operand.const (Value.int IntKind.i64 0)), type := 0, pos := "keys.go:88", after := #[{ on := 11, ground := Ground.data }, { on := 7, ground := Ground.guard }], guard := some (7, true) }) (v := ?_) rfl (by kernel_rfl) (by kernel_rfl) (by kernel_rfl) (fun _ _ _ h => h) (Or.inl ⟨by rfl, ?_⟩) (by assumption) ?_
          rotate_left
          · (intro wq hSw; (try dsimp only at hSw);  have pa := (hSw.cell (p := ⟨ba, oa, none⟩) zza).trans PA.out; have pb := (hSw.cell (p := ⟨bb, ob, none⟩) zzb).trans PB.out; clear hSw; go_simp; first | done | with_reducible rfl)
          try simp only [Act.put, List.setIfInBounds_toArray, List.set_cons_zero, List.set_cons_succ]
          refine wpAnyH_take (i := 13) (oi := { dst := some 49, op := Op.load 9 (Operand.tmp 48), type := 9, pos := "keys.go:88", after := #[{ on := 12, ground := Ground.data }, { on := 7, ground := Ground.guard }], guard := some (7, true) }) (v := ?_) rfl (by kernel_rfl) (by kernel_rfl) (by kernel_rfl) (fun _ _ _ h => h) (Or.inl ⟨by rfl, ?_⟩) (by assumption) ?_
          rotate_left
          · (intro wq hSw; (try dsimp only at hSw);  have pa := (hSw.cell (p := ⟨ba, oa, none⟩) zza).trans PA.out; have pb := (hSw.cell (p := ⟨bb, ob, none⟩) zzb).trans PB.out; clear hSw; go_simp; first | done | with_reducible rfl)
          try simp only [Act.put, List.setIfInBounds_toArray, List.set_cons_zero, List.set_cons_succ]
          refine wpAnyH_take (i := 14) (oi := { dst := some 50, op := Op.binOp BinOp.leq 9 (Operand.tmp 46) (Operand.tmp 49) 9, type := 4, pos := "keys.go:88", after := #[{ on := 10, ground := Ground.data }, { on := 13, ground := Ground.data }, { on := 7, ground := Ground.guard }], guard := some (7, true) }) (v := ?_) rfl (by kernel_rfl) (by kernel_rfl) (by kernel_rfl) (fun _ _ _ h => h) (Or.inl ⟨by rfl, ?_⟩) (by assumption) ?_
          rotate_left
          · (intro wq hSw; (try dsimp only at hSw);  have pa := (hSw.cell (p := ⟨ba, oa, none⟩) zza).trans PA.out; have pb := (hSw.cell (p := ⟨bb, ob, none⟩) zzb).trans PB.out; clear hSw; go_simp; first | done | with_reducible rfl)
          try simp only [Act.put, List.setIfInBounds_toArray, List.set_cons_zero, List.set_cons_succ]
          refine wpAnyH_take (i := 15) (oi := { dst := some 51, op := Op.pick (Operand.tmp 43) (Operand.tmp 50) (Operand.const (Value.bool false)), type := 4, pos := "keys.go:88", after := #[{ on := 7, ground := Ground.data }, { on := 14, ground := Ground.data }, { on := 3, ground := Ground.guard }], guard := some (3, false) }) (v := ?_) rfl (by kernel_rfl) (by kernel_rfl) (by kernel_rfl) (fun _ _ _ h => h) (Or.inl ⟨by rfl, ?_⟩) (by assumption) ?_
          rotate_left
          · (intro wq hSw; (try dsimp only at hSw);  have pa := (hSw.cell (p := ⟨ba, oa, none⟩) zza).trans PA.out; have pb := (hSw.cell (p := ⟨bb, ob, none⟩) zzb).trans PB.out; clear hSw; go_simp; first | done | with_reducible rfl)
          try simp only [Act.put, List.setIfInBounds_toArray, List.set_cons_zero, List.set_cons_succ]
          refine wpAnyH_take (i := 16) (oi := { dst := some 52, op := Op.pick (Operand.tmp 39) (Operand.const (Value.bool true)) (Operand.tmp 51), type := 4, pos := "keys.go:88", after := #[{ on := 3, ground := Ground.data }, { on := 15, ground := Ground.data }], guard := none }) (v := ?_) rfl (by kernel_rfl) (by kernel_rfl) (by kernel_rfl) (fun _ _ _ h => h) (Or.inl ⟨by rfl, ?_⟩) (by assumption) ?_
          rotate_left
          · (intro wq hSw; (try dsimp only at hSw);  have pa := (hSw.cell (p := ⟨ba, oa, none⟩) zza).trans PA.out; have pb := (hSw.cell (p := ⟨bb, ob, none⟩) zzb).trans PB.out; clear hSw; go_simp; first | done | with_reducible rfl)
          try simp only [Act.put, List.setIfInBounds_toArray, List.set_cons_zero, List.set_cons_succ]
          refine wpAnyH_take (i := 17) (oi := { dst := some 9, op := Op.assign (Operand.tmp 52), type := 4, pos := "keys.go:88", after := #[{ on := 16, ground := Ground.data }, { on := 7, ground := Ground.chain }, { on := 0, ground := Ground.phase }, { on := 1, ground := Ground.phase }, { on := 2, ground := Ground.phase }, { on := 3, ground := Ground.phase }, { on := 4, ground := Ground.phase }, { on := 5, ground := Ground.phase }, { on := 6, ground := Ground.phase }, { on := 7, ground := Ground.phase }, { on := 8, ground := Ground.phase }, { on := 9, ground := Ground.phase }, { on := 10, ground := Ground.phase }, { on := 11, ground := Ground.phase }, { on := 12, ground := Ground.phase }, { on := 13, ground := Ground.phase }, { on := 14, ground := Ground.phase }, { on := 15, ground := Ground.phase }, { on := 16, ground := Ground.phase }], guard := none }) (v := ?_) rfl (by kernel_rfl) (by kernel_rfl) (by kernel_rfl) (fun _ _ _ h => h) (Or.inl ⟨by rfl, ?_⟩) (by assumption) ?_
          rotate_left
          · (intro wq hSw; (try dsimp only at hSw);  have pa := (hSw.cell (p := ⟨ba, oa, none⟩) zza).trans PA.out; have pb := (hSw.cell (p := ⟨bb, ob, none⟩) zzb).trans PB.out; clear hSw; go_simp; first | done | with_reducible rfl)
          try simp only [Act.put, List.setIfInBounds_toArray, List.set_cons_zero, List.set_cons_succ]
          refine wpAnyH_done (by kernel_rfl) ?_ _
          have BL := Lib.hid (BL.out.trans (hHeld.mono BL.out.size))
          have OW := Lib.hid (i_own_below OW.out hHeld)
          have PA := Lib.hid ((hHeld.cell (p := ⟨ba, oa, none⟩) zza).trans PA.out)
          have zza : ba < x1.heap.size := Nat.lt_of_lt_of_le zza hHeld.size
          have PB := Lib.hid ((hHeld.cell (p := ⟨bb, ob, none⟩) zzb).trans PB.out)
          have zzb : bb < x1.heap.size := Nat.lt_of_lt_of_le zzb hHeld.size
          clear hHeld
          go_upto_region 7 with fail
          refine wp_region_held_drew (S := (fun w' => Below x1.heap.size x1 w')) (by kernel_rfl) (i_to_drew (Below.refl _ _)) (fun hHeld => ?_)
          obtain ⟨x2, hv0⟩ : ∃ v0, v0 = x1.drew := ⟨_, rfl⟩
          rw [← hv0] at hHeld ⊢
          clear hv0
          refine wpAnyH_take (i := 0) (oi := { dst := some 54, op := Op.move (Operand.tmp 0), type := 99, pos := "keys.go:91", after := #[], guard := none }) (v := ?_) rfl (by kernel_rfl) (by kernel_rfl) (by kernel_rfl) (fun _ _ _ h => h) (Or.inl ⟨by rfl, ?_⟩) (by assumption) ?_
          rotate_left
          · (intro wq hSw; (try dsimp only at hSw);  have pa := (hSw.cell (p := ⟨ba, oa, none⟩) zza).trans PA.out; have pb := (hSw.cell (p := ⟨bb, ob, none⟩) zzb).trans PB.out; clear hSw; go_simp; first | done | with_reducible rfl)
          try simp only [Act.put, List.setIfInBounds_toArray, List.set_cons_zero, List.set_cons_succ]
          refine wpAnyH_take (i := 1) (oi := { dst := some 55, op := Op.indexAddr 99 (Operand.tmp 54) (Operand.const (Value.int IntKind.i64 0)), type := 0, pos := "keys.go:91", after := #[{ on := 0, ground := Ground.data }], guard := none }) (v := ?_) rfl (by kernel_rfl) (by kernel_rfl) (by kernel_rfl) (fun _ _ _ h => h) (Or.inl ⟨by rfl, ?_⟩) (by assumption) ?_
          rotate_left
          · (intro wq hSw; (try dsimp only at hSw);  have pa := (hSw.cell (p := ⟨ba, oa, none⟩) zza).trans PA.out; have pb := (hSw.cell (p := ⟨bb, ob, none⟩) zzb).trans PB.out; clear hSw; go_simp; first | done | with_reducible rfl)
          try simp only [Act.put, List.setIfInBounds_toArray, List.set_cons_zero, List.set_cons_succ]
          refine wpAnyH_take (i := 2) (oi := { dst := some 56, op := Op.load 9 (Operand.tmp 55), type := 9, pos := "keys.go:91", after := #[{ on := 1, ground := Ground.data }], guard := none }) (v := ?_) rfl (by kernel_rfl) (by kernel_rfl) (by kernel_rfl) (fun _ _ _ h => h) (Or.inl ⟨by rfl, ?_⟩) (by assumption) ?_
          rotate_left
          · (intro wq hSw; (try dsimp only at hSw);  have pa := (hSw.cell (p := ⟨ba, oa, none⟩) zza).trans PA.out; have pb := (hSw.cell (p := ⟨bb, ob, none⟩) zzb).trans PB.out; clear hSw; go_simp; first | done | with_reducible rfl)
          try simp only [Act.put, List.setIfInBounds_toArray, List.set_cons_zero, List.set_cons_succ]
          refine wpAnyH_take (i := 3) (oi := { dst := some 57, op := Op.move (Operand.tmp 0), type := 99, pos := "keys.go:91", after := #[], guard := none }) (v := ?_) rfl (by kernel_rfl) (by kernel_rfl) (by kernel_rfl) (fun _ _ _ h => h) (Or.inl ⟨by rfl, ?_⟩) (by assumption) ?_
          rotate_left
          · (intro wq hSw; (try dsimp only at hSw);  have pa := (hSw.cell (p := ⟨ba, oa, none⟩) zza).trans PA.out; have pb := (hSw.cell (p := ⟨bb, ob, none⟩) zzb).trans PB.out; clear hSw; go_simp; first | done | with_reducible rfl)
          try simp only [Act.put, List.setIfInBounds_toArray, List.set_cons_zero, List.set_cons_succ]
          refine wpAnyH_take (i := 4) (oi := { dst := some 58, op := Op.slice 99 (Operand.tmp 57) (some (Operand.const (Value.int IntKind.i64 1))) none none, type := 99, pos := "keys.go:91", after := #[{ on := 3, ground := Ground.data }], guard := none }) (v := ?_) rfl (by kernel_rfl) (by kernel_rfl) (by kernel_rfl) (fun _ _ _ h => h) (Or.inl ⟨by rfl, ?_⟩) (by assumption) ?_
          rotate_left
          · (intro wq hSw; (try dsimp only at hSw);  have pa := (hSw.cell (p := ⟨ba, oa, none⟩) zza).trans PA.out; have pb := (hSw.cell (p := ⟨bb, ob, none⟩) zzb).trans PB.out; clear hSw; go_simp; first | done | with_reducible rfl)
          try simp only [Act.put, List.setIfInBounds_toArray, List.set_cons_zero, List.set_cons_succ]
          refine wpAnyH_take (i := 5) (oi := { dst := some 10, op := Op.assign (Operand.tmp 56), type := 9, pos := "keys.go:91", after := #[{ on := 2, ground := Ground.data }, { on := 0, ground := Ground.phase }, { on := 1, ground := Ground.phase }, { on := 2, ground := Ground.phase }, { on := 3, ground := Ground.textOnly Departure.lateStores }, { on := 4, ground := Ground.textOnly Departure.lateStoresUnsure }], guard := none }) (v := ?_) rfl (by kernel_rfl) (by kernel_rfl) (by kernel_rfl) (fun _ _ _ h => h) (Or.inl ⟨by rfl, ?_⟩) (by assumption) ?_
          rotate_left
          · (intro wq hSw; (try dsimp only at hSw);  have pa := (hSw.cell (p := ⟨ba, oa, none⟩) zza).trans PA.out; have pb := (hSw.cell (p := ⟨bb, ob, none⟩) zzb).trans PB.out; clear hSw; go_simp; first | done | with_reducible rfl)
          try simp only [Act.put, List.setIfInBounds_toArray, List.set_cons_zero, List.set_cons_succ]
          refine wpAnyH_take (i := 6) (oi := { dst := some 0, op := Op.assign (Operand.tmp 58), type := 99, pos := "keys.go:91", after := #[{ on := 4, ground := Ground.data }, { on := 5, ground := Ground.chain }, { on := 0, ground := Ground.phase }, { on := 1, ground := Ground.phase }, { on := 2, ground := Ground.phase }, { on := 3, ground := Ground.phase }, { on := 4, ground := Ground.phase }, { on := 5, ground := Ground.phase }], guard := none }) (v := ?_) rfl (by kernel_rfl) (by kernel_rfl) (by kernel_rfl) (fun _ _ _ h => h) (Or.inl ⟨by rfl, ?_⟩) (by assumption) ?_
          rotate_left
          · (intro wq hSw; (try dsimp only at hSw);  have pa := (hSw.cell (p := ⟨ba, oa, none⟩) zza).trans PA.out; have pb := (hSw.cell (p := ⟨bb, ob, none⟩) zzb).trans PB.out; clear hSw; go_simp; first | done | with_reducible rfl)
          try simp only [Act.put, List.setIfInBounds_toArray, List.set_cons_zero]
          refine wpAnyH_done (by kernel_rfl) ?_ _
          have BL := Lib.hid (BL.out.trans (hHeld.mono BL.out.size))
          have OW := Lib.hid (i_own_below OW.out hHeld)
          have PA := Lib.hid ((hHeld.cell (p := ⟨ba, oa, none⟩) zza).trans PA.out)
          have zza : ba < x2.heap.size := Nat.lt_of_lt_of_le zza hHeld.size
          have PB := Lib.hid ((hHeld.cell (p := ⟨bb, ob, none⟩) zzb).trans PB.out)
          have zzb : bb < x2.heap.size := Nat.lt_of_lt_of_le zzb hHeld.size
          clear hHeld
          obtain ⟨qa, hqa⟩ : ∃ q, q = (if ca = 1 then some (⟨ba, oa, none⟩ : Addr) else some ⟨ba, oa + 1, none⟩) := ⟨_, rfl⟩
          have RA := Lib.hid (RA.out.rest (ao' := qa) (fun h => by rw [hqa, if_neg (by omega)]))
          rw [← hqa]
          clear hqa
          have KP := hk.out true false x2
          cases hk2 : keep true false
          · rw [hk2] at KP
            have M2 : Hid (mg keep A B = O ++ mg keep a (y :: b)) := Lib.hid (by rw [ME.out, MS.out, hk2]; rfl)
            clear hk2
            go_wp2_with (go_at_fn g; refine KP.mono ?_; rintro e w' ⟨rfl, rfl⟩)
            go_roundg ((x :: a).length + (y :: b).length)
            case measure => exact KG.out
            case rel => exact ⟨a, (y :: b), O, ⟨by first | (simp; done) | (simp; omega), by have := KN.out; simp at this ⊢; omega⟩, BL, RA, RB, OW, M2⟩
          · rw [hk2] at KP
            have M2 : Hid (mg keep A B = (O ++ [x]) ++ mg keep a (y :: b)) := Lib.hid (by rw [ME.out, MS.out, hk2]; simp [opt])
            clear hk2
            have sz := BL.out.size
            go_wp2_with (first | (go_at_fn g; refine KP.mono ?_; rintro e w' ⟨rfl, rfl⟩) | (at_builtin; refine wpList_append_own _ rfl (.tmp 69) (.tmp 71) 99 rfl w.heap.size 9 i0 (.string ⟨#[]⟩) 1 16 Try.underlying99 hi hz0 hz1 hz2 rfl (by decide) _ O.length (O.map Value.string) rfl (OW.out.alloc _) ⟨x2.heap.size, 0, none⟩ 1 1 [.string x] rfl rfl ?c1 ?c2 ?c3 ?c4 ?c5 ?_))
            case c1 => exact cell_one_new _ _ _
            case c2 => intro u hu; simp at hu; subst hu; rfl
            case c3 => unfold maxLen; omega
            case c4 => omega
            case c5 => simp; omega
            intro v2 w2 own2 grow2 _
            have B2 : Hid (Below w.heap.size w w2) := Lib.hid ((BL.out.trans ((Below.refl _ _).alloc sz _)).trans ((Below.refl _ _).grown grow2 (by simp; omega) (fun g hg => (OW.out.lt g hg).1)))
            have O3 : Hid (w2.ownsRow w.heap.size 9 1 v2 (O ++ [x]).length ((O ++ [x]).map Value.string)) := Lib.hid (by
              rw [List.length_append, List.map_append]
              exact own2)
            clear own2 grow2 BL OW
            go_wp2_with fail
            go_roundg ((x :: a).length + (y :: b).length)
            case measure => exact KG.out
            case rel => exact ⟨a, (y :: b), O ++ [x], ⟨by first | (simp; done) | (simp; omega), by have := KN.out; simp at this ⊢; omega⟩, B2, RA, RB, O3, M2⟩
      · by_cases c2 : slt y x = true
        · have l1 : Op.bytesLess y.toList x.toList = true := c2
          have l2 : Op.bytesLess x.toList y.toList = false := slt_asymm c2
          have l3 : (x.toList == y.toList) = false := by
            have h := sle_eq x y
            unfold sle at h
            rw [l2, c2] at h
            simpa using h
          as_aux_lemma =>
            obtain ⟨ba, oa, na, ca, rfl, hna, hca, za, ta⟩ := RA.out.head
            have pa := (BL.out.cell (p := ⟨ba, oa, none⟩) za).trans ta
            have PA := Lib.hid pa
            have LA := Lib.hid hna
            have zza : ba < wr.heap.size := Nat.lt_of_lt_of_le za BL.out.size
            have na1 : 0 < na := by omega
            have na2 : (0 : Int) < na := by omega
            have na3 : ¬ na = 0 := by omega
            have na4 : 1 ≤ na := by omega
            have na5 : (1 : Int) ≤ na := by omega
            have na6 : 1 ≤ ca := by omega
            have na7 : ((na : Int) == 0) = false := by simp; omega
            have na8 : decide ((na : Int) = 0) = false := by simp; omega
            have na9 : ¬ ((na : Int) = 0) := by omega
            clear hna ta
            obtain ⟨bb, ob, nb, cb, rfl, hnb, hcb, zb, tb⟩ := RB.out.head
            have pb := (BL.out.cell (p := ⟨bb, ob, none⟩) zb).trans tb
            have PB := Lib.hid pb
            have LB := Lib.hid hnb
            have zzb : bb < wr.heap.size := Nat.lt_of_lt_of_le zb BL.out.size
            have nb1 : 0 < nb := by omega
            have nb2 : (0 : Int) < nb := by omega
            have nb3 : ¬ nb = 0 := by omega
            have nb4 : 1 ≤ nb := by omega
            have nb5 : (1 : Int) ≤ nb := by omega
            have nb6 : 1 ≤ cb := by omega
            have nb7 : ((nb : Int) == 0) = false := by simp; omega
            have nb8 : decide ((nb : Int) = 0) = false := by simp; omega
            have nb9 : ¬ ((nb : Int) = 0) := by omega
            clear hnb tb
            clear pa pb
            have MS : Hid (mg keep (x :: a) (y :: b) = opt (keep false true) y ++ mg keep (x :: a) b) := Lib.hid (by simp [mg, c1, c2])
            go_upto_region 3 with fail
            refine wp_region_held_drew (S := (fun w' => Below wr.heap.size wr w')) (by kernel_rfl) (i_to_drew (Below.refl _ _)) (fun hHeld => ?_)
            obtain ⟨x0, hv0⟩ : ∃ v0, v0 = wr.drew := ⟨_, rfl⟩
            rw [← hv0] at hHeld ⊢
            clear hv0
            refine wpAnyH_take (i := 0) (oi := { dst := some 19, op := Op.move (Operand.tmp 1), type := 99, pos := "keys.go:87", after := #[], guard := none }) (v := ?_) rfl (by kernel_rfl) (by kernel_rfl) (by kernel_rfl) (fun _ _ _ h => h) (Or.inl ⟨by rfl, ?_⟩) (by assumption) ?_
            rotate_left
            · (intro wq hSw; (try dsimp only at hSw);  have pa := (hSw.cell (p := ⟨ba, oa, none⟩) zza).trans PA.out; have pb := (hSw.cell (p := ⟨bb, ob, none⟩) zzb).trans PB.out; clear hSw; go_simp; first | done | with_reducible rfl)
            try simp only [Act.put, List.setIfInBounds_toArray, List.set_cons_zero, List.set_cons_succ]
            refine wpAnyH_take (i := 1) (oi := { dst := some 20, op := Op.call { callee := Callee.builtin Builtin.len, args := #[Operand.tmp 19], argTypes := #[99] }, type := 3, pos := "keys.go:87", after := #[{ on := 0, ground := Ground.data }], guard := none }) (v := ?_) rfl (by kernel_rfl) (by kernel_rfl) (by kernel_rfl) (fun _ _ _ h => h) (Or.inl ⟨by rfl, ?_⟩) (by assumption) ?_
            rotate_left
            · (intro wq hSw; (try dsimp only at hSw);  have pa := (hSw.cell (p := ⟨ba, oa, none⟩) zza).trans PA.out; have pb := (hSw.cell (p := ⟨bb, ob, none⟩) zzb).trans PB.out; clear hSw; go_simp; first | done | with_reducible rfl)
            try simp only [Act.put, List.setIfInBounds_toArray, List.set_cons_zero, List.set_cons_succ]
            refine wpAnyH_take (i := 2) (oi := { dst := some 21, op := Op.binOp BinOp.eql 3 (Operand.tmp 20) (Operand.const (Value.int IntKind.i64 0)) 3, type := 4, pos := "keys.go:87", after := #[{ on := 1, ground := Ground.data }], guard := none }) (v := ?_) rfl (by kernel_rfl) (by kernel_rfl) (by kernel_rfl) (fun _ _ _ h => h) (Or.inl ⟨by rfl, ?_⟩) (by assumption) ?_
            rotate_left
            · (intro wq hSw; (try dsimp only at hSw);  have pa := (hSw.cell (p := ⟨ba, oa, none⟩) zza).trans PA.out; have pb := (hSw.cell (p := ⟨bb, ob, none⟩) zzb).trans PB.out; clear hSw; go_simp; first | done | with_reducible rfl)
            try simp only [Act.put, List.setIfInBounds_toArray, List.set_cons_zero, List.set_cons_succ]
            refine wpAnyH_take (i := 3) (oi := { dst := some 22, op := Op.move (Operand.tmp 21), type := 4, pos := "keys.go:87", after := #[{ on := 2, ground := Ground.data }], guard := none }) (v := ?_) rfl (by kernel_rfl) (by kernel_rfl) (by kernel_rfl) (fun _ _ _ h => h) (Or.inl ⟨by rfl, ?_⟩) (by assumption) ?_
            rotate_left
            · (intro wq hSw; (try dsimp only at hSw);  have pa := (hSw.cell (p := ⟨ba, oa, none⟩) zza).trans PA.out; have pb := (hSw.cell (p := ⟨bb, ob, none⟩) zzb).trans PB.out; clear hSw; go_simp; first | done | with_reducible rfl)
            try simp only [Act.put, List.setIfInBounds_toArray, List.set_cons_zero, List.set_cons_succ]
            refine wpAnyH_take (i := 4) (oi := { dst := some 23, op := Op.move (Operand.tmp 0), type := 99, pos := "keys.go:87", after := #[{ on := 3, ground := Ground.guard }], guard := some (3, false) }) (v := ?_) rfl (by kernel_rfl) (by kernel_rfl) (by kernel_rfl) (fun _ _ _ h => h) (Or.inl ⟨by rfl, ?_⟩) (by assumption) ?_
            rotate_left
            · (intro wq hSw; (try dsimp only at hSw);  have pa := (hSw.cell (p := ⟨ba, oa, none⟩) zza).trans PA.out; have pb := (hSw.cell (p := ⟨bb, ob, none⟩) zzb).trans PB.out; clear hSw; go_simp; first | done | with_reducible rfl)
            try simp only [Act.put, List.setIfInBounds_toArray, List.set_cons_zero, List.set_cons_succ]
            refine wpAnyH_take (i := 5) (oi := { dst := some 24, op := Op.call { callee := Callee.builtin Builtin.len, args := #[Operand.tmp 23], argTypes := #[99] }, type := 3, pos := "keys.go:87", after := #[{ on := 4, ground := Ground.data }, { on := 3, ground := Ground.guard }], guard := some (3, false) }) (v := ?_) rfl (by kernel_rfl) (by kernel_rfl) (by kernel_rfl) (fun _ _ _ h => h) (Or.inl ⟨by rfl, ?_⟩) (by assumption) ?_
            rotate_left
            · (intro wq hSw; (try dsimp only at hSw);  have pa := (hSw.cell (p := ⟨ba, oa, none⟩) zza).trans PA.out; have pb := (hSw.cell (p := ⟨bb, ob, none⟩) zzb).trans PB.out; clear hSw; go_simp; first | done | with_reducible rfl)
            try simp only [Act.put, List.setIfInBounds_toArray, List.set_cons_zero, List.set_cons_succ]
            refine wpAnyH_take (i := 6) (oi := { dst := some 25, op := Op.binOp BinOp.gtr 3 (Operand.tmp 24) (Operand.const (Value.int IntKind.i64 0)) 3, type := 4, pos := "keys.go:87", after := #[{ on := 5, ground := Ground.data }, { on := 3, ground := Ground.guard }], guard := some (3, false) }) (v := ?_) rfl (by kernel_rfl) (by kernel_rfl) (by kernel_rfl) (fun _ _ _ h => h) (Or.inl ⟨by rfl, ?_⟩) (by assumption) ?_
            rotate_left
            · (intro wq hSw; (try dsimp only at hSw);  have pa := (hSw.cell (p := ⟨ba, oa, none⟩) zza).trans PA.out; have pb := (hSw.cell (p := ⟨bb, ob, none⟩) zzb).trans PB.out; clear hSw; go_simp; first | done | with_reducible rfl)
            try simp only [Act.put, List.setIfInBounds_toArray, List.set_cons_zero, List.set_cons_succ]
            refine wpAnyH_take (i := 7) (oi := { dst := some 26, op := Op.move (Operand.tmp 25), type := 4, pos := "keys.go:87", after := #[{ on := 6, ground := Ground.data }, { on := 3, ground := Ground.chain }, { on := 3, ground := Ground.guard }], guard := some (3, false) }) (v := ?_) rfl (by kernel_rfl) (by kernel_rfl) (by kernel_rfl) (fun _ _ _ h => h) (Or.inl ⟨by rfl, ?_⟩) (by assumption) ?_
            rotate_left
            · (intro wq hSw; (try dsimp only at hSw);  have pa := (hSw.cell (p := ⟨ba, oa, none⟩) zza).trans PA.out; have pb := (hSw.cell (p := ⟨bb, ob, none⟩) zzb).trans PB.out; clear hSw; go_simp; first | done | with_reducible rfl)
            try simp only [Act.put, List.setIfInBounds_toArray, List.set_cons_zero, List.set_cons_succ]
            refine wpAnyH_take (i := 8) (oi := { dst := some 27, op := Op.move (Operand.tmp 0), type := 99, pos := "keys.go:87", after := #[{ on := 7, ground := Ground.guard }], guard := some (7, true) }) (v := ?_) rfl (by kernel_rfl) (by kernel_rfl) (by kernel_rfl) (fun _ _ _ h => h) (Or.inl ⟨by rfl, ?_⟩) (by assumption) ?_
            rotate_left
            · (intro wq hSw; (try dsimp only at hSw);  have pa := (hSw.cell (p := ⟨ba, oa, none⟩) zza).trans PA.out; have pb := (hSw.cell (p := ⟨bb, ob, none⟩) zzb).trans PB.out; clear hSw; go_simp; first | done | with_reducible rfl)
            try simp only [Act.put, List.setIfInBounds_toArray, List.set_cons_zero, List.set_cons_succ]
            refine wpAnyH_take (i := 9) (oi := { dst := some 28, op := Op.indexAddr 99 (Operand.tmp 27) (Operand.const (Value.int IntKind.i64 0)), type := 0, pos := "keys.go:87", after := #[{ on := 8, ground := Ground.data }, { on := 7, ground := Ground.guard }], guard := some (7, true) }) (v := ?_) rfl (by kernel_rfl) (by kernel_rfl) (by kernel_rfl) (fun _ _ _ h => h) (Or.inl ⟨by rfl, ?_⟩) (by assumption) ?_
            rotate_left
            · (intro wq hSw; (try dsimp only at hSw);  have pa := (hSw.cell (p := ⟨ba, oa, none⟩) zza).trans PA.out; have pb := (hSw.cell (p := ⟨bb, ob, none⟩) zzb).trans PB.out; clear hSw; go_simp; first | done | with_reducible rfl)
            try simp only [Act.put, List.setIfInBounds_toArray, List.set_cons_zero, List.set_cons_succ]
            refine wpAnyH_take (i := 10) (oi := { dst := some 29, op := Op.load 9 (Operand.tmp 28), type := 9, pos := "keys.go:87", after := #[{ on := 9, ground := Ground.data }, { on := 7, ground := Ground.guard }], guard := some (7, true) }) (v := ?_) rfl (by kernel_rfl) (by kernel_rfl) (by kernel_rfl) (fun _ _ _ h => h) (Or.inl ⟨by rfl, ?_⟩) (by assumption) ?_
            rotate_left
            · (intro wq hSw; (try dsimp only at hSw);  have pa := (hSw.cell (p := ⟨ba, oa, none⟩) zza).trans PA.out; have pb := (hSw.cell (p := ⟨bb, ob, none⟩) zzb).trans PB.out; clear hSw; go_simp; first | done | with_reducible rfl)
            try simp only [Act.put, List.setIfInBounds_toArray, List.set_cons_zero, List.set_cons_succ]
            refine wpAnyH_take (i := 11) (oi := { dst := some 30, op := Op.move (Operand.tmp 1), type := 99, pos := "keys.go:87", after := #[{ on := 7, ground := Ground.guard }], guard := some (7, true) }) (v := ?_) rfl (by kernel_rfl) (by kernel_rfl) (by kernel_rfl) (fun _ _ _ h => h) (Or.inl ⟨by rfl, ?_⟩) (by assumption) ?_
            rotate_left
            · (intro wq hSw; (try dsimp only at hSw);  have pa := (hSw.cell (p := ⟨ba, oa, none⟩) zza).trans PA.out; have pb := (hSw.cell (p := ⟨bb, ob, none⟩) zzb).trans PB.out; clear hSw; go_simp; first | done | with_reducible rfl)
            try simp only [Act.put, List.setIfInBounds_toArray, List.set_cons_zero, List.set_cons_succ]
            refine wpAnyH_take (i := 12) (oi := { dst := some 31, op := Op.indexAddr 99 (Operand.tmp 30) (Operand.const (Value.int IntKind.i64 0)), type := 0, pos := "keys.go:87", after := #[{ on := 11, ground := Ground.data }, { on := 7, ground := Ground.guard }], guard := some (7, true) }) (v := ?_) rfl (by kernel_rfl) (by kernel_rfl) (by kernel_rfl) (fun _ _ _ h => h) (Or.inl ⟨by rfl, ?_⟩) (by assumption) ?_
            rotate_left
            · (intro wq hSw; (try dsimp only at hSw);  have pa := (hSw.cell (p := ⟨ba, oa, none⟩) zza).trans PA.out; have pb := (hSw.cell (p := ⟨bb, ob, none⟩) zzb).trans PB.out; clear hSw; go_simp; first | done | with_reducible rfl)
            try simp only [Act.put, List.setIfInBounds_toArray, List.set_cons_zero, List.set_cons_succ]
            refine wpAnyH_take (i := 13) (oi := { dst := some 32, op := Op.load 9 (Operand.tmp 31), type := 9, pos := "keys.go:87", after := #[{ on := 12, ground := Ground.data }, { on := 7, ground := Ground.guard }], guard := some (7, true) }) (v := ?_) rfl (by kernel_rfl) (by kernel_rfl) (by kernel_rfl) (fun _ _ _ h => h) (Or.inl ⟨by rfl, ?_⟩) (by assumption) ?_
            rotate_left
            · (intro wq hSw; (try dsimp only at hSw);  have pa := (hSw.cell (p := ⟨ba, oa, none⟩) zza).trans PA.out; have pb := (hSw.cell (p := ⟨bb, ob, none⟩) zzb).trans PB.out; clear hSw; go_simp; first | done | with_reducible rfl)
            try simp only [Act.put, List.setIfInBounds_toArray, List.set_cons_zero, List.set_cons_succ]
            refine wpAnyH_take (i := 14) (oi := { dst := some 33, op := Op.binOp BinOp.leq 9 (Operand.tmp 29) (Operand.tmp 32) 9, type := 4, pos := "keys.go:87", after := #[{ on := 10, ground := Ground.data }, { on := 13, ground := Ground.data }, { on := 7, ground := Ground.guard }], guard := some (7, true) }) (v := ?_) rfl (by kernel_rfl) (by kernel_rfl) (by kernel_rfl) (fun _ _ _ h => h) (Or.inl ⟨by rfl, ?_⟩) (by assumption) ?_
            rotate_left
            · (intro wq hSw; (try dsimp only at hSw);  have pa := (hSw.cell (p := ⟨ba, oa, none⟩) zza).trans PA.out; have pb := (hSw.cell (p := ⟨bb, ob, none⟩) zzb).trans PB.out; clear hSw; go_simp; first | done | with_reducible rfl)
            try simp only [Act.put, List.setIfInBounds_toArray, List.set_cons_zero, List.set_cons_succ]
            refine wpAnyH_take (i := 15) (oi := { dst := some 34, op := Op.pick (Operand.tmp 26) (Operand.tmp 33) (Operand.const (Value.bool false)), type := 4, pos := "keys.go:87", after := #[{ on := 7, ground := Ground.data }, { on := 14, ground := Ground.data }, { on := 3, ground := Ground.guard }], guard := some (3, false) }) (v := ?_) rfl (by kernel_rfl) (by kernel_rfl) (by kernel_rfl) (fun _ _ _ h => h) (Or.inl ⟨by rfl, ?_⟩) (by assumption) ?_
            rotate_left
            · (intro wq hSw; (try dsimp only at hSw);  have pa := (hSw.cell (p := ⟨ba, oa, none⟩) zza).trans PA.out; have pb := (hSw.cell (p := ⟨bb, ob, none⟩) zzb).trans PB.out; clear hSw; go_simp; first | done | with_reducible rfl)
            try simp only [Act.put, List.setIfInBounds_toArray, List.set_cons_zero, List.set_cons_succ]
            refine wpAnyH_take (i := 16) (oi := { dst := some 35, op := Op.pick (Operand.tmp 22) (Operand.const (Value.bool true)) (Operand.tmp 34), type := 4, pos := "keys.go:87", after := #[{ on := 3, ground := Ground.data }, { on := 15, ground := Ground.data }], guard := none }) (v := ?_) rfl (by kernel_rfl) (by kernel_rfl) (by kernel_rfl) (fun _ _ _ h => h) (Or.inl ⟨by rfl, ?_⟩) (by assumption) ?_
            rotate_left
            · (intro wq hSw; (try dsimp only at hSw);  have pa := (hSw.cell (p := ⟨ba, oa, none⟩) zza).trans PA.out; have pb := (hSw.cell (p := ⟨bb, ob, none⟩) zzb).trans PB.out; clear hSw; go_simp; first | done | with_reducible rfl)
            try simp only [Act.put, List.setIfInBounds_toArray, List.set_cons_zero, List.set_cons_succ]
            refine wpAnyH_take (i := 17) (oi := { dst := some 8, op := Op.assign (Operand.tmp 35), type := 4, pos := "keys.go:87", after := #[{ on := 16, ground := Ground.data }, { on := 7, ground := Ground.chain }, { on := 0, ground := Ground.phase }, { on := 1, ground := Ground.phase }, { on := 2, ground := Ground.phase }, { on := 3, ground := Ground.phase }, { on := 4, ground := Ground.phase }, { on := 5, ground := Ground.phase }, { on := 6, ground := Ground.phase }, { on := 7, ground := Ground.phase }, { on := 8, ground := Ground.phase }, { on := 9, ground := Ground.phase }, { on := 10, ground := Ground.phase }, { on := 11, ground := Ground.phase }, { on := 12, ground := Ground.phase }, { on := 13, ground := Ground.phase }, { on := 14, ground := Ground.phase }, { on := 15, ground := Ground.phase }, { on := 16, ground := Ground.phase }], guard := none }) (v := ?_) rfl (by kernel_rfl) (by kernel_rfl) (by kernel_rfl) (fun _ _ _ h => h) (Or.inl ⟨by rfl, ?_⟩) (by assumption) ?_
            rotate_left
            · (intro wq hSw; (try dsimp only at hSw);  have pa := (hSw.cell (p := ⟨ba, oa, none⟩) zza).trans PA.out; have pb := (hSw.cell (p := ⟨bb, ob, none⟩) zzb).trans PB.out; clear hSw; go_simp; first | done | with_reducible rfl)
            try simp only [Act.put, List.setIfInBounds_toArray, List.set_cons_zero, List.set_cons_succ]
            refine wpAnyH_done (by kernel_rfl) ?_ _
            have BL := Lib.hid (BL.out.trans (hHeld.mono BL.out.size))
            have OW := Lib.hid (i_own_below OW.out hHeld)
            have PA := Lib.hid ((hHeld.cell (p := ⟨ba, oa, none⟩) zza).trans PA.out)
            have zza : ba < x0.heap.size := Nat.lt_of_lt_of_le zza hHeld.size
            have PB := Lib.hid ((hHeld.cell (p := ⟨bb, ob, none⟩) zzb).trans PB.out)
            have zzb : bb < x0.heap.size := Nat.lt_of_lt_of_le zzb hHeld.size
            clear hHeld
            go_upto_region 4 with fail
            refine wp_region_held_drew (S := (fun w' => Below x0.heap.size x0 w')) (by kernel_rfl) (i_to_drew (Below.refl _ _)) (fun hHeld => ?_)
            obtain ⟨x1, hv0⟩ : ∃ v0, v0 = x0.drew := ⟨_, rfl⟩
            rw [← hv0] at hHeld ⊢
            clear hv0
            refine wpAnyH_take (i := 0) (oi := { dst := some 36, op := Op.move (Operand.tmp 0), type := 99, pos := "keys.go:88", after := #[], guard := none }) (v := ?_) rfl (by kernel_rfl) (by kernel_rfl) (by kernel_rfl) (fun _ _ _ h => h) (Or.inl ⟨by rfl, ?_⟩) (by assumption) ?_
            rotate_left
            · (intro wq hSw; (try dsimp only at hSw);  have pa := (hSw.cell (p := ⟨ba, oa, none⟩) zza).trans PA.out; have pb := (hSw.cell (p := ⟨bb, ob, none⟩) zzb).trans PB.out; clear hSw; go_simp; first | done | with_reducible rfl)
            try simp only [Act.put, List.setIfInBounds_toArray, List.set_cons_zero, List.set_cons_succ]
            refine wpAnyH_take (i := 1) (oi := { dst := some 37, op := Op.call { callee := Callee.builtin Builtin.len, args := #[Operand.tmp 36], argTypes := #[99] }, type := 3, pos := "keys.go:88", after := #[{ on := 0, ground := Ground.data }], guard := none }) (v := ?_) rfl (by kernel_rfl) (by kernel_rfl) (by kernel_rfl) (fun _ _ _ h => h) (Or.inl ⟨by rfl, ?_⟩) (by assumption) ?_
            rotate_left
            · (intro wq hSw; (try dsimp only at hSw);  have pa := (hSw.cell (p := ⟨ba, oa, none⟩) zza).trans PA.out; have pb := (hSw.cell (p := ⟨bb, ob, none⟩) zzb).trans PB.out; clear hSw; go_simp; first | done | with_reducible rfl)
            try simp only [Act.put, List.setIfInBounds_toArray, List.set_cons_zero, List.set_cons_succ]
            refine wpAnyH_take (i := 2) (oi := { dst := some 38, op := Op.binOp BinOp.eql 3 (Operand.tmp 37) (Operand.const (Value.int IntKind.i64 0)) 3, type := 4, pos := "keys.go:88", after := #[{ on := 1, ground := Ground.data }], guard := none }) (v := ?_) rfl (by kernel_rfl) (by kernel_rfl) (by kernel_rfl) (fun _ _ _ h => h) (Or.inl ⟨by rfl, ?_⟩) (by assumption) ?_
            rotate_left
            · (intro wq hSw; (try dsimp only at hSw);  have pa := (hSw.cell (p := ⟨ba, oa, none⟩) zza).trans PA.out; have pb := (hSw.cell (p := ⟨bb, ob, none⟩) zzb).trans PB.out; clear hSw; go_simp; first | done | with_reducible rfl)
            try simp only [Act.put, List.setIfInBounds_toArray, List.set_cons_zero, List.set_cons_succ]
            refine wpAnyH_take (i := 3) (oi := { dst := some 39, op := Op.move (Operand.tmp 38), type := 4, pos := "keys.go:88", after := #[{ on := 2, ground := Ground.data }], guard := none }) (v := ?_) rfl (by kernel_rfl) (by kernel_rfl) (by kernel_rfl) (fun _ _ _ h => h) (Or.inl ⟨by rfl, ?_⟩) (by assumption) ?_
            rotate_left
            · (intro wq hSw; (try dsimp only at hSw);  have pa := (hSw.cell (p := ⟨ba, oa, none⟩) zza).trans PA.out; have pb := (hSw.cell (p := ⟨bb, ob, none⟩) zzb).trans PB.out; clear hSw; go_simp; first | done | with_reducible rfl)
            try simp only [Act.put, List.setIfInBounds_toArray, List.set_cons_zero, List.set_cons_succ]
            refine wpAnyH_take (i := 4) (oi := { dst := some 40, op := Op.move (Operand.tmp 1), type := 99, pos := "keys.go:88", after := #[{ on := 3, ground := Ground.guard }], guard := some (3, false) }) (v := ?_) rfl (by kernel_rfl) (by kernel_rfl) (by kernel_rfl) (fun _ _ _ h => h) (Or.inl ⟨by rfl, ?_⟩) (by assumption) ?_
            rotate_left
            · (intro wq hSw; (try dsimp only at hSw);  have pa := (hSw.cell (p := ⟨ba, oa, none⟩) zza).trans PA.out; have pb := (hSw.cell (p := ⟨bb, ob, none⟩) zzb).trans PB.out; clear hSw; go_simp; first | done | with_reducible rfl)
            try simp only [Act.put, List.setIfInBounds_toArray, List.set_cons_zero, List.set_cons_succ]
            refine wpAnyH_take (i := 5) (oi := { dst := some 41, op := Op.call { callee := Callee.builtin Builtin.len, args := #[Operand.tmp 40], argTypes := #[99] }, type := 3, pos := "keys.go:88", after := #[{ on := 4, ground := Ground.data }, { on := 3, ground := Ground.guard }], guard := some (3, false) }) (v := ?_) rfl (by kernel_rfl) (by kernel_rfl) (by kernel_rfl) (fun _ _ _ h => h) (Or.inl ⟨by rfl, ?_⟩) (by assumption) ?_
            rotate_left
            · (intro wq hSw; (try dsimp only at hSw);  have pa := (hSw.cell (p := ⟨ba, oa, none⟩) zza).trans PA.out; have pb := (hSw.cell (p := ⟨bb, ob, none⟩) zzb).trans PB.out; clear hSw; go_simp; first | done | with_reducible rfl)
            try simp only [Act.put, List.setIfInBounds_toArray, List.set_cons_zero, List.set_cons_succ]
            refine wpAnyH_take (i := 6) (oi := { dst := some 42, op := Op.binOp BinOp.gtr 3 (Operand.tmp 41) (Operand.const (Value.int IntKind.i64 0)) 3, type := 4, pos := "keys.go:88", after := #[{ on := 5, ground := Ground.data }, { on := 3, ground := Ground.guard }], guard := some (3, false) }) (v := ?_) rfl (by kernel_rfl) (by kernel_rfl) (by kernel_rfl) (fun _ _ _ h => h) (Or.inl ⟨by rfl, ?_⟩) (by assumption) ?_
            rotate_left
            · (intro wq hSw; (try dsimp only at hSw);  have pa := (hSw.cell (p := ⟨ba, oa, none⟩) zza).trans PA.out; have pb := (hSw.cell (p := ⟨bb, ob, none⟩) zzb).trans PB.out; clear hSw; go_simp; first | done | with_reducible rfl)
            try simp only [Act.put, List.setIfInBounds_toArray, List.set_cons_zero, List.set_cons_succ]
            refine wpAnyH_take (i := 7) (oi := { dst := some 43, op := Op.move (Operand.tmp 42), type := 4, pos := "keys.go:88", after := #[{ on := 6, ground := Ground.data }, { on := 3, ground := Ground.chain }, { on := 3, ground := Ground.guard }], guard := some (3, false) }) (v := ?_) rfl (by kernel_rfl) (by kernel_rfl) (by kernel_rfl) (fun _ _ _ h => h) (Or.inl ⟨by rfl, ?_⟩) (by assumption) ?_
            rotate_left
            · (intro wq hSw; (try dsimp only at hSw);  have pa := (hSw.cell (p := ⟨ba, oa, none⟩) zza).trans PA.out; have pb := (hSw.cell (p := ⟨bb, ob, none⟩) zzb).trans PB.out; clear hSw; go_simp; first | done | with_reducible rfl)
            try simp only [Act.put, List.setIfInBounds_toArray, List.set_cons_zero, List.set_cons_succ]
            refine wpAnyH_take (i := 8) (oi := { dst := some 44, op := Op.move (Operand.tmp 1), type := 99, pos := "keys.go:88", after := #[{ on := 7, ground := Ground.guard }], guard := some (7, true) }) (v := ?_) rfl (by kernel_rfl) (by kernel_rfl) (by kernel_rfl) (fun _ _ _ h => h) (Or.inl ⟨by rfl, ?_⟩) (by assumption) ?_
            rotate_left
            · (intro wq hSw; (try dsimp only at hSw);  have pa := (hSw.cell (p := ⟨ba, oa, none⟩) zza).trans PA.out; have pb := (hSw.cell (p := ⟨bb, ob, none⟩) zzb).trans PB.out; clear hSw; go_simp; first | done | with_reducible rfl)
            try simp only [Act.put, List.setIfInBounds_toArray, List.set_cons_zero, List.set_cons_succ]
            refine wpAnyH_take (i := 9) (oi := { dst := some 45, op := Op.indexAddr 99 (Operand.tmp 44) (Operand.const (Value.int IntKind.i64 0)), type := 0, pos := "keys.go:88", after := #[{ on := 8, ground := Ground.data }, { on := 7, ground := Ground.guard }], guard := some (7, true) }) (v := ?_) rfl (by kernel_rfl) (by kernel_rfl) (by kernel_rfl) (fun _ _ _ h => h) (Or.inl ⟨by rfl, ?_⟩) (by assumption) ?_
            rotate_left
            · (intro wq hSw; (try dsimp only at hSw);  have pa := (hSw.cell (p := ⟨ba, oa, none⟩) zza).trans PA.out; have pb := (hSw.cell (p := ⟨bb, ob, none⟩) zzb).trans PB.out; clear hSw; go_simp; first | done | with_reducible rfl)
            try simp only [Act.put, List.setIfInBounds_toArray, List.set_cons_zero, List.set_cons_succ]
            refine wpAnyH_take (i := 10) (oi := { dst := some 46, op := Op.load 9 (Operand.tmp 45), type := 9, pos := "keys.go:88", after := #[{ on := 9, ground := Ground.data }, { on := 7, ground := Ground.guard }], guard := some (7, true) }) (v := ?_) rfl (by kernel_rfl) (by kernel_rfl) (by kernel_rfl) (fun _ _ _ h => h) (Or.inl ⟨by rfl, ?_⟩) (by assumption) ?_
            rotate_left
            · (intro wq hSw; (try dsimp only at hSw);  have pa := (hSw.cell (p := ⟨ba, oa, none⟩) zza).trans PA.out; have pb := (hSw.cell (p := ⟨bb, ob, none⟩) zzb).trans PB.out; clear hSw; go_simp; first | done | with_reducible rfl)
            try simp only [Act.put, List.setIfInBounds_toArray, List.set_cons_zero, List.set_cons_succ]
            refine wpAnyH_take (i := 11) (oi := { dst := some 47, op := Op.move (Operand.tmp 0), type := 99, pos := "keys.go:88", after := #[{ on := 7, ground := Ground.guard }], guard := some (7, true) }) (v := ?_) rfl (by kernel_rfl) (by kernel_rfl) (by kernel_rfl) (fun _ _ _ h => h) (Or.inl ⟨by rfl, ?_⟩) (by assumption) ?_
            rotate_left
            · (intro wq hSw; (try dsimp only at hSw);  have pa := (hSw.cell (p := ⟨ba, oa, none⟩) zza).trans PA.out; have pb := (hSw.cell (p := ⟨bb, ob, none⟩) zzb).trans PB.out; clear hSw; go_simp; first | done | with_reducible rfl)
            try simp only [Act.put, List.setIfInBounds_toArray, List.set_cons_zero, List.set_cons_succ]
            refine wpAnyH_take (i := 12) (oi := { dst := some 48, op := Op.indexAddr 99 (Operand.tmp 47) (Operand.const (Value.int IntKind.i64 0)), type := 0, pos := "keys.go:88", after := #[{ on := 11, ground := Ground.data }, { on := 7, ground := Ground.guard }], guard := some (7, true) }) (v := ?_) rfl (by kernel_rfl) (by kernel_rfl) (by kernel_rfl) (fun _ _ _ h => h) (Or.inl ⟨by rfl, ?_⟩) (by assumption) ?_
            rotate_left
            · (intro wq hSw; (try dsimp only at hSw);  have pa := (hSw.cell (p := ⟨ba, oa, none⟩) zza).trans PA.out; have pb := (hSw.cell (p := ⟨bb, ob, none⟩) zzb).trans PB.out; clear hSw; go_simp; first | done | with_reducible rfl)
            try simp only [Act.put, List.setIfInBounds_toArray, List.set_cons_zero, List.set_cons_succ]
            refine wpAnyH_take (i := 13) (oi := { dst := some 49, op := Op.load 9 (Operand.tmp 48), type := 9, pos := "keys.go:88", after := #[{ on := 12, ground := Ground.data }, { on := 7, ground := Ground.guard }], guard := some (7, true) }) (v := ?_) rfl (by kernel_rfl) (by kernel_rfl) (by kernel_rfl) (fun _ _ _ h => h) (Or.inl ⟨by rfl, ?_⟩) (by assumption) ?_
            rotate_left
            · (intro wq hSw; (try dsimp only at hSw);  have pa := (hSw.cell (p := ⟨ba, oa, none⟩) zza).trans PA.out; have pb := (hSw.cell (p := ⟨bb, ob, none⟩) zzb).trans PB.out; clear hSw; go_simp; first | done | with_reducible rfl)
            try simp only [Act.put, List.setIfInBounds_toArray, List.set_cons_zero, List.set_cons_succ]
            refine wpAnyH_take (i := 14) (oi := { dst := some 50, op := Op.binOp BinOp.leq 9 (Operand.tmp 46) (Operand.tmp 49) 9, type := 4, pos := "keys.go:88", after := #[{ on := 10, ground := Ground.data }, { on := 13, ground := Ground.data }, { on := 7, ground := Ground.guard }], guard := some (7, true) }) (v := ?_) rfl (by kernel_rfl) (by kernel_rfl) (by kernel_rfl) (fun _ _ _ h => h) (Or.inl ⟨by rfl, ?_⟩) (by assumption) ?_
            rotate_left
            · (intro wq hSw; (try dsimp only at hSw);  have pa := (hSw.cell (p := ⟨ba, oa, none⟩) zza).trans PA.out; have pb := (hSw.cell (p := ⟨bb, ob, none⟩) zzb).trans PB.out; clear hSw; go_simp; first | done | with_reducible rfl)
            try simp only [Act.put, List.setIfInBounds_toArray, List.set_cons_zero, List.set_cons_succ]
            refine wpAnyH_take (i := 15) (oi := { dst := some 51, op := Op.pick (Operand.tmp 43) (Operand.tmp 50) (Operand.const (Value.bool false)), type := 4, pos := "keys.go:88", after := #[{ on := 7, ground := Ground.data }, { on := 14, ground := Ground.data }, { on := 3, ground := Ground.guard }], guard := some (3, false) }) (v := ?_) rfl (by kernel_rfl) (by kernel_rfl) (by kernel_rfl) (fun _ _ _ h => h) (Or.inl ⟨by rfl, ?_⟩) (by assumption) ?_
            rotate_left
            · (intro wq hSw; (try dsimp only at hSw);  have pa := (hSw.cell (p := ⟨ba, oa, none⟩) zza).trans PA.out; have pb := (hSw.cell (p := ⟨bb, ob, none⟩) zzb).trans PB.out; clear hSw; go_simp; first | done | with_reducible rfl)
            try simp only [Act.put, List.setIfInBounds_toArray, List.set_cons_zero, List.set_cons_succ]
            refine wpAnyH_take (i := 16) (oi := { dst := some 52, op := Op.pick (Operand.tmp 39) (Operand.const (Value.bool true)) (Operand.tmp 51), type := 4, pos := "keys.go:88", after := #[{ on := 3, ground := Ground.data }, { on := 15, ground := Ground.data }], guard := none }) (v := ?_) rfl (by kernel_rfl) (by kernel_rfl) (by kernel_rfl) (fun _ _ _ h => h) (Or.inl ⟨by rfl, ?_⟩) (by assumption) ?_
            rotate_left
            · (intro wq hSw; (try dsimp only at hSw);  have pa := (hSw.cell (p := ⟨ba, oa, none⟩) zza).trans PA.out; have pb := (hSw.cell (p := ⟨bb, ob, none⟩) zzb).trans PB.out; clear hSw; go_simp; first | done | with_reducible rfl)
            try simp only [Act.put, List.setIfInBounds_toArray, List.set_cons_zero, List.set_cons_succ]
            refine wpAnyH_take (i := 17) (oi := { dst := some 9, op := Op.assign (Operand.tmp 52), type := 4, pos := "keys.go:88", after := #[{ on := 16, ground := Ground.data }, { on := 7, ground := Ground.chain }, { on := 0, ground := Ground.phase }, { on := 1, ground := Ground.phase }, { on := 2, ground := Ground.phase }, { on := 3, ground := Ground.phase }, { on := 4, ground := Ground.phase }, { on := 5, ground := Ground.phase }, { on := 6, ground := Ground.phase }, { on := 7, ground := Ground.phase }, { on := 8, ground := Ground.phase }, { on := 9, ground := Ground.phase }, { on := 10, ground := Ground.phase }, { on := 11, ground := Ground.phase }, { on := 12, ground := Ground.phase }, { on := 13, ground := Ground.phase }, { on := 14, ground := Ground.phase }, { on := 15, ground := Ground.phase }, { on := 16, ground := Ground.phase }], guard := none }) (v := ?_) rfl (by kernel_rfl) (by kernel_rfl) (by kernel_rfl) (fun _ _ _ h => h) (Or.inl ⟨by rfl, ?_⟩) (by assumption) ?_
            rotate_left
            · (intro wq hSw; (try dsimp only at hSw);  have pa := (hSw.cell (p := ⟨ba, oa, none⟩) zza).trans PA.out; have pb := (hSw.cell (p := ⟨bb, ob, none⟩) zzb).trans PB.out; clear hSw; go_simp; first | done | with_reducible rfl)
            try simp only [Act.put, List.setIfInBounds_toArray, List.set_cons_zero, List.set_cons_succ]
            refine wpAnyH_done (by kernel_rfl) ?_ _
            have BL := Lib.hid (BL.out.trans (hHeld.mono BL.out.size))
            have OW := Lib.hid (i_own_below OW.out hHeld)
            have PA := Lib.hid ((hHeld.cell (p := ⟨ba, oa, none⟩) zza).trans PA.out)
            have zza : ba < x1.heap.size := Nat.lt_of_lt_of_le zza hHeld.size
            have PB := Lib.hid ((hHeld.cell (p := ⟨bb, ob, none⟩) zzb).trans PB.out)
            have zzb : bb < x1.heap.size := Nat.lt_of_lt_of_le zzb hHeld.size
            clear hHeld
            go_upto_region 9 with fail
            refine wp_region_held_drew (S := (fun w' => Below x1.heap.size x1 w')) (by kernel_rfl) (i_to_drew (Below.refl _ _)) (fun hHeld => ?_)
            obtain ⟨x2, hv0⟩ : ∃ v0, v0 = x1.drew := ⟨_, rfl⟩
            rw [← hv0] at hHeld ⊢
            clear hv0
            refine wpAnyH_take (i := 0) (oi := { dst := some 60, op := Op.move (Operand.tmp 1), type := 99, pos := "keys.go:94", after := #[], guard := none }) (v := ?_) rfl (by kernel_rfl) (by kernel_rfl) (by kernel_rfl) (fun _ _ _ h => h) (Or.inl ⟨by rfl, ?_⟩) (by assumption) ?_
            rotate_left
            · (intro wq hSw; (try dsimp only at hSw);  have pa := (hSw.cell (p := ⟨ba, oa, none⟩) zza).trans PA.out; have pb := (hSw.cell (p := ⟨bb, ob, none⟩) zzb).trans PB.out; clear hSw; go_simp; first | done | with_reducible rfl)
            try simp only [Act.put, List.setIfInBounds_toArray, List.set_cons_zero, List.set_cons_succ]
            refine wpAnyH_take (i := 1) (oi := { dst := some 61, op := Op.indexAddr 99 (Operand.tmp 60) (Operand.const (Value.int IntKind.i64 0)), type := 0, pos := "keys.go:94", after := #[{ on := 0, ground := Ground.data }], guard := none }) (v := ?_) rfl (by kernel_rfl) (by kernel_rfl) (by kernel_rfl) (fun _ _ _ h => h) (Or.inl ⟨by rfl, ?_⟩) (by assumption) ?_
            rotate_left
            · (intro wq hSw; (try dsimp only at hSw);  have pa := (hSw.cell (p := ⟨ba, oa, none⟩) zza).trans PA.out; have pb := (hSw.cell (p := ⟨bb, ob, none⟩) zzb).trans PB.out; clear hSw; go_simp; first | done | with_reducible rfl)
            try simp only [Act.put, List.setIfInBounds_toArray, List.set_cons_zero, List.set_cons_succ]
            refine wpAnyH_take (i := 2) (oi := { dst := some 62, op := Op.load 9 (Operand.tmp 61), type := 9, pos := "keys.go:94", after := #[{ on := 1, ground := Ground.data }], guard := none }) (v := ?_) rfl (by kernel_rfl) (by kernel_rfl) (by kernel_rfl) (fun _ _ _ h => h) (Or.inl ⟨by rfl, ?_⟩) (by assumption) ?_
            rotate_left
            · (intro wq hSw; (try dsimp only at hSw);  have pa := (hSw.cell (p := ⟨ba, oa, none⟩) zza).trans PA.out; have pb := (hSw.cell (p := ⟨bb, ob, none⟩) zzb).trans PB.out; clear hSw; go_simp; first | done | with_reducible rfl)
            try simp only [Act.put, List.setIfInBounds_toArray, List.set_cons_zero, List.set_cons_succ]
            refine wpAnyH_take (i := 3) (oi := { dst := some 63, op := Op.move (Operand.tmp 1), type := 99, pos := "keys.go:94", after := #[], guard := none }) (v := ?_) rfl (by kernel_rfl) (by kernel_rfl) (by kernel_rfl) (fun _ _ _ h => h) (Or.inl ⟨by rfl, ?_⟩) (by assumption) ?_
            rotate_left
            · (intro wq hSw; (try dsimp only at hSw);  have pa := (hSw.cell (p := ⟨ba, oa, none⟩) zza).trans PA.out; have pb := (hSw.cell (p := ⟨bb, ob, none⟩) zzb).trans PB.out; clear hSw; go_simp; first | done | with_reducible rfl)
            try simp only [Act.put, List.setIfInBounds_toArray, List.set_cons_zero, List.set_cons_succ]
            refine wpAnyH_take (i := 4) (oi := { dst := some 64, op := Op.slice 99 (Operand.tmp 63) (some (Operand.const (Value.int IntKind.i64 1))) none none, type := 99, pos := "keys.go:94", after := #[{ on := 3, ground := Ground.data }], guard := none }) (v := ?_) rfl (by kernel_rfl) (by kernel_rfl) (by kernel_rfl) (fun _ _ _ h => h) (Or.inl ⟨by rfl, ?_⟩) (by assumption) ?_
            rotate_left
            · (intro wq hSw; (try dsimp only at hSw);  have pa := (hSw.cell (p := ⟨ba, oa, none⟩) zza).trans PA.out; have pb := (hSw.cell (p := ⟨bb, ob, none⟩) zzb).trans PB.out; clear hSw; go_simp; first | done | with_reducible rfl)
            try simp only [Act.put, List.setIfInBounds_toArray, List.set_cons_zero, List.set_cons_succ]
            refine wpAnyH_take (i := 5) (oi := { dst := some 10, op := Op.assign (Operand.tmp 62), type := 9, pos := "keys.go:94", after := #[{ on := 2, ground := Ground.data }, { on := 0, ground := Ground.phase }, { on := 1, ground := Ground.phase }, { on := 2, ground := Ground.phase }, { on := 3, ground := Ground.textOnly Departure.lateStores }, { on := 4, ground := Ground.textOnly Departure.lateStoresUnsure }], guard := none }) (v := ?_) rfl (by kernel_rfl) (by kernel_rfl) (by kernel_rfl) (fun _ _ _ h => h) (Or.inl ⟨by rfl, ?_⟩) (by assumption) ?_
            rotate_left
            · (intro wq hSw; (try dsimp only at hSw);  have pa := (hSw.cell (p := ⟨ba, oa, none⟩) zza).trans PA.out; have pb := (hSw.cell (p := ⟨bb, ob, none⟩) zzb).trans PB.out; clear hSw; go_simp; first | done | with_reducible rfl)
            try simp only [Act.put, List.setIfInBounds_toArray, List.set_cons_zero, List.set_cons_succ]
            refine wpAnyH_take (i := 6) (oi := { dst := some 1, op := Op.assign (Operand.tmp 64), type := 99, pos := "keys.go:94", after := #[{ on := 4, ground := Ground.data }, { on := 5, ground := Ground.chain }, { on := 0, ground := Ground.phase }, { on := 1, ground := Ground.phase }, { on := 2, ground := Ground.phase }, { on := 3, ground := Ground.phase }, { on := 4, ground := Ground.phase }, { on := 5, ground := Ground.phase }], guard := none }) (v := ?_) rfl (by kernel_rfl) (by kernel_rfl) (by kernel_rfl) (fun _ _ _ h => h) (Or.inl ⟨by rfl, ?_⟩) (by assumption) ?_
            rotate_left
            · (intro wq hSw; (try dsimp only at hSw);  have pa := (hSw.cell (p := ⟨ba, oa, none⟩) zza).trans PA.out; have pb := (hSw.cell (p := ⟨bb, ob, none⟩) zzb).trans PB.out; clear hSw; go_simp; first | done | with_reducible rfl)
            try simp only [Act.put, List.setIfInBounds_toArray, List.set_cons_zero, List.set_cons_succ]
            refine wpAnyH_done (by kernel_rfl) ?_ _
            have BL := Lib.hid (BL.out.trans (hHeld.mono BL.out.size))
            have OW := Lib.hid (i_own_below OW.out hHeld)
            have PA := Lib.hid ((hHeld.cell (p := ⟨ba, oa, none⟩) zza).trans PA.out)
            have zza : ba < x2.heap.size := Nat.lt_of_lt_of_le zza hHeld.size
            have PB := Lib.hid ((hHeld.cell (p := ⟨bb, ob, none⟩) zzb).trans PB.out)
            have zzb : bb < x2.heap.size := Nat.lt_of_lt_of_le zzb hHeld.size
            clear hHeld
            obtain ⟨qb, hqb⟩ : ∃ q, q = (if cb = 1 then some (⟨bb, ob, none⟩ : Addr) else some ⟨bb, ob + 1, none⟩) := ⟨_, rfl⟩
            have RB := Lib.hid (RB.out.rest (ao' := qb) (fun h => by rw [hqb, if_neg (by omega)]))
            rw [← hqb]
            clear hqb
            have KP := hk.out false true x2
            cases hk2 : keep false true
            · rw [hk2] at KP
              have M2 : Hid (mg keep A B = O ++ mg keep (x :: a) b) := Lib.hid (by rw [ME.out, MS.out, hk2]; rfl)
              clear hk2
              go_wp2_with (go_at_fn g; refine KP.mono ?_; rintro e w' ⟨rfl, rfl⟩)
              go_roundg ((x :: a).length + (y :: b).length)
              case measure => exact KG.out
              case rel => exact ⟨(x :: a), b, O, ⟨by first | (simp; done) | (simp; omega), by have := KN.out; simp at this ⊢; omega⟩, BL, RA, RB, OW, M2⟩
            · rw [hk2] at KP
              have M2 : Hid (mg keep A B = (O ++ [y]) ++ mg keep (x :: a) b) := Lib.hid (by rw [ME.out, MS.out, hk2]; simp [opt])
              clear hk2
              have sz := BL.out.size
              go_wp2_with (first | (go_at_fn g; refine KP.mono ?_; rintro e w' ⟨rfl, rfl⟩) | (at_builtin; refine wpList_append_own _ rfl (.tmp 69) (.tmp 71) 99 rfl w.heap.size 9 i0 (.string ⟨#[]⟩) 1 16 Try.underlying99 hi hz0 hz1 hz2 rfl (by decide) _ O.length (O.map Value.string) rfl (OW.out.alloc _) ⟨x2.heap.size, 0, none⟩ 1 1 [.string y] rfl rfl ?c1 ?c2 ?c3 ?c4 ?c5 ?_))
              case c1 => exact cell_one_new _ _ _
              case c2 => intro u hu; simp at hu; subst hu; rfl
              case c3 => unfold maxLen; omega
              case c4 => omega
              case c5 => simp; omega
              intro v2 w2 own2 grow2 _
              have B2 : Hid (Below w.heap.size w w2) := Lib.hid ((BL.out.trans ((Below.refl _ _).alloc sz _)).trans ((Below.refl _ _).grown grow2 (by simp; omega) (fun g hg => (OW.out.lt g hg).1)))
              have O3 : Hid (w2.ownsRow w.heap.size 9 1 v2 (O ++ [y]).length ((O ++ [y]).map Value.string)) := Lib.hid (by
                rw [List.length_append, List.map_append]
                exact own2)
              clear own2 grow2 BL OW
              go_wp2_with fail
              go_roundg ((x :: a).length + (y :: b).length)
              case measure => exact KG.out
              case rel => exact ⟨(x :: a), b, O ++ [y], ⟨by first | (simp; done) | (simp; omega), by have := KN.out; simp at this ⊢; omega⟩, B2, RA, RB, O3, M2⟩
        · have e : x = y := slt_total (by simpa using c1) (by simpa using c2)
          subst e
          have l1 : Op.bytesLess x.toList x.toList = false := slt_irrefl x
          have l3 : (x.toList == x.toList) = true := (seq_iff x x).2 rfl
          as_aux_lemma =>
            obtain ⟨ba, oa, na, ca, rfl, hna, hca, za, ta⟩ := RA.out.head
            have pa := (BL.out.cell (p := ⟨ba, oa, none⟩) za).trans ta
            have PA := Lib.hid pa
            have LA := Lib.hid hna
            have zza : ba < wr.heap.size := Nat.lt_of_lt_of_le za BL.out.size
            have na1 : 0 < na := by omega
            have na2 : (0 : Int) < na := by omega
            have na3 : ¬ na = 0 := by omega
            have na4 : 1 ≤ na := by omega
            have na5 : (1 : Int) ≤ na := by omega
            have na6 : 1 ≤ ca := by omega
            have na7 : ((na : Int) == 0) = false := by simp; omega
            have na8 : decide ((na : Int) = 0) = false := by simp; omega
            have na9 : ¬ ((na : Int) = 0) := by omega
            clear hna ta
            obtain ⟨bb, ob, nb, cb, rfl, hnb, hcb, zb, tb⟩ := RB.out.head
            have pb := (BL.out.cell (p := ⟨bb, ob, none⟩) zb).trans tb
            have PB := Lib.hid pb
            have LB := Lib.hid hnb
            have zzb : bb < wr.heap.size := Nat.lt_of_lt_of_le zb BL.out.size
            have nb1 : 0 < nb := by omega
            have nb2 : (0 : Int) < nb := by omega
            have nb3 : ¬ nb = 0 := by omega
            have nb4 : 1 ≤ nb := by omega
            have nb5 : (1 : Int) ≤ nb := by omega
            have nb6 : 1 ≤ cb := by omega
            have nb7 : ((nb : Int) == 0) = false := by simp; omega
            have nb8 : decide ((nb : Int) = 0) = false := by simp; omega
            have nb9 : ¬ ((nb : Int) = 0) := by omega
            clear hnb tb
            clear pa pb
            have MS : Hid (mg keep (x :: a) (x :: b) = opt (keep true true) x ++ mg keep a b) := Lib.hid (by simp [mg, c1])
            go_upto_region 3 with fail
            refine wp_region_held_drew (S := (fun w' => Below wr.heap.size wr w')) (by kernel_rfl) (i_to_drew (Below.refl _ _)) (fun hHeld => ?_)
            obtain ⟨x0, hv0⟩ : ∃ v0, v0 = wr.drew := ⟨_, rfl⟩
            rw [← hv0] at hHeld ⊢
            clear hv0
            refine wpAnyH_take (i := 0) (oi := { dst := some 19, op := Op.move (Operand.tmp 1), type := 99, pos := "keys.go:87", after := #[], guard := none }) (v := ?_) rfl (by kernel_rfl) (by kernel_rfl) (by kernel_rfl) (fun _ _ _ h => h) (Or.inl ⟨by rfl, ?_⟩) (by assumption) ?_
            rotate_left
            · (intro wq hSw; (try dsimp only at hSw);  have pa := (hSw.cell (p := ⟨ba, oa, none⟩) zza).trans PA.out; have pb := (hSw.cell (p := ⟨bb, ob, none⟩) zzb).trans PB.out; clear hSw; go_simp; first | done | with_reducible rfl)
            try simp only [Act.put, List.setIfInBounds_toArray, List.set_cons_zero, List.set_cons_succ]
            refine wpAnyH_take (i := 1) (oi := { dst := some 20, op := Op.call { callee := Callee.builtin Builtin.len, args := #[Operand.tmp 19], argTypes := #[99] }, type := 3, pos := "keys.go:87", after := #[{ on := 0, ground := Ground.data }], guard := none }) (v := ?_) rfl (by kernel_rfl) (by kernel_rfl) (by kernel_rfl) (fun _ _ _ h => h) (Or.inl ⟨by rfl, ?_⟩) (by assumption) ?_
            rotate_left
            · (intro wq hSw; (try dsimp only at hSw);  have pa := (hSw.cell (p := ⟨ba, oa, none⟩) zza).trans PA.out; have pb := (hSw.cell (p := ⟨bb, ob, none⟩) zzb).trans PB.out; clear hSw; go_simp; first | done | with_reducible rfl)
            try simp only [Act.put, List.setIfInBounds_toArray, List.set_cons_zero, List.set_cons_succ]
            refine wpAnyH_take (i := 2) (oi := { dst := some 21, op := Op.binOp BinOp.eql 3 (Operand.tmp 20) (Operand.const (Value.int IntKind.i64 0)) 3, type := 4, pos := "keys.go:87", after := #[{ on := 1, ground := Ground.data }], guard := none }) (v := ?_) rfl (by kernel_rfl) (by kernel_rfl) (by kernel_rfl) (fun _ _ _ h => h) (Or.inl ⟨by rfl, ?_⟩) (by assumption) ?_
            rotate_left
            · (intro wq hSw; (try dsimp only at hSw);  have pa := (hSw.cell (p := ⟨ba, oa, none⟩) zza).trans PA.out; have pb := (hSw.cell (p := ⟨bb, ob, none⟩) zzb).trans PB.out; clear hSw; go_simp; first | done | with_reducible rfl)
            try simp only [Act.put, List.setIfInBounds_toArray, List.set_cons_zero, List.set_cons_succ]
            refine wpAnyH_take (i := 3) (oi := { dst := some 22, op := Op.move (Operand.tmp 21), type := 4, pos := "keys.go:87", after := #[{ on := 2, ground := Ground.data }], guard := none }) (v := ?_) rfl (by kernel_rfl) (by kernel_rfl) (by kernel_rfl) (fun _ _ _ h => h) (Or.inl ⟨by rfl, ?_⟩) (by assumption) ?_
            rotate_left
            · (intro wq hSw; (try dsimp only at hSw);  have pa := (hSw.cell (p := ⟨ba, oa, none⟩) zza).trans PA.out; have pb := (hSw.cell (p := ⟨bb, ob, none⟩) zzb).trans PB.out; clear hSw; go_simp; first | done | with_reducible rfl)
            try simp only [Act.put, List.setIfInBounds_toArray, List.set_cons_zero, List.set_cons_succ]
            refine wpAnyH_take (i := 4) (oi := { dst := some 23, op := Op.move (Operand.tmp 0), type := 99, pos := "keys.go:87", after := #[{ on := 3, ground := Ground.guard }], guard := some (3, false) }) (v := ?_) rfl (by kernel_rfl) (by kernel_rfl) (by kernel_rfl) (fun _ _ _ h => h) (Or.inl ⟨by rfl, ?_⟩) (by assumption) ?_
            rotate_left
            · (intro wq hSw; (try dsimp only at hSw);  have pa := (hSw.cell (p := ⟨ba, oa, none⟩) zza).trans PA.out; have pb := (hSw.cell (p := ⟨bb, ob, none⟩) zzb).trans PB.out; clear hSw; go_simp; first | done | with_reducible rfl)
            try simp only [Act.put, List.setIfInBounds_toArray, List.set_cons_zero, List.set_cons_succ]
            refine wpAnyH_take (i := 5) (oi := { dst := some 24, op := Op.call { callee := Callee.builtin Builtin.len, args := #[Operand.tmp 23], argTypes := #[99] }, type := 3, pos := "keys.go:87", after := #[{ on := 4, ground := Ground.data }, { on := 3, ground := Ground.guard }], guard := some (3, false) }) (v := ?_) rfl (by kernel_rfl) (by kernel_rfl) (by kernel_rfl) (fun _ _ _ h => h) (Or.inl ⟨by rfl, ?_⟩) (by assumption) ?_
            rotate_left
            · (intro wq hSw; (try dsimp only at hSw);  have pa := (hSw.cell (p := ⟨ba, oa, none⟩) zza).trans PA.out; have pb := (hSw.cell (p := ⟨bb, ob, none⟩) zzb).trans PB.out; clear hSw; go_simp; first | done | with_reducible rfl)
            try simp only [Act.put, List.setIfInBounds_toArray, List.set_cons_zero, List.set_cons_succ]
            refine wpAnyH_take (i := 6) (oi := { dst := some 25, op := Op.binOp BinOp.gtr 3 (Operand.tmp 24) (Operand.const (Value.int IntKind.i64 0)) 3, type := 4, pos := "keys.go:87", after := #[{ on := 5, ground := Ground.data }, { on := 3, ground := Ground.guard }], guard := some (3, false) }) (v := ?_) rfl (by kernel_rfl) (by kernel_rfl) (by kernel_rfl) (fun _ _ _ h => h) (Or.inl ⟨by rfl, ?_⟩) (by assumption) ?_
            rotate_left
            · (intro wq hSw; (try dsimp only at hSw);  have pa := (hSw.cell (p := ⟨ba, oa, none⟩) zza).trans PA.out; have pb := (hSw.cell (p := ⟨bb, ob, none⟩) zzb).trans PB.out; clear hSw; go_simp; first | done | with_reducible rfl)
            try simp only [Act.put, List.setIfInBounds_toArray, List.set_cons_zero, List.set_cons_succ]
            refine wpAnyH_take (i := 7) (oi := { dst := some 26, op := Op.move (Operand.tmp 25), type := 4, pos := "keys.go:87", after := #[{ on := 6, ground := Ground.data }, { on := 3, ground := Ground.chain }, { on := 3, ground := Ground.guard }], guard := some (3, false) }) (v := ?_) rfl (by kernel_rfl) (by kernel_rfl) (by kernel_rfl) (fun _ _ _ h => h) (Or.inl ⟨by rfl, ?_⟩) (by assumption) ?_
            rotate_left
            · (intro wq hSw; (try dsimp only at hSw);  have pa := (hSw.cell (p := ⟨ba, oa, none⟩) zza).trans PA.out; have pb := (hSw.cell (p := ⟨bb, ob, none⟩) zzb).trans PB.out; clear hSw; go_simp; first | done | with_reducible rfl)
            try simp only [Act.put, List.setIfInBounds_toArray, List.set_cons_zero, List.set_cons_succ]
            refine wpAnyH_take (i := 8) (oi := { dst := some 27, op := Op.move (Operand.tmp 0), type := 99, pos := "keys.go:87", after := #[{ on := 7, ground := Ground.guard }], guard := some (7, true) }) (v := ?_) rfl (by kernel_rfl) (by kernel_rfl) (by kernel_rfl) (fun _ _ _ h => h) (Or.inl ⟨by rfl, ?_⟩) (by assumption) ?_
            rotate_left
            · (intro wq hSw; (try dsimp only at hSw);  have pa := (hSw.cell (p := ⟨ba, oa, none⟩) zza).trans PA.out; have pb := (hSw.cell (p := ⟨bb, ob, none⟩) zzb).trans PB.out; clear hSw; go_simp; first | done | with_reducible rfl)
            try simp only [Act.put, List.setIfInBounds_toArray, List.set_cons_zero, List.set_cons_succ]
            refine wpAnyH_take (i := 9) (oi := { dst := some 28, op := Op.indexAddr 99 (Operand.tmp 27) (Operand.const (Value.int IntKind.i64 0)), type := 0, pos := "keys.go:87", after := #[{ on := 8, ground := Ground.data }, { on := 7, ground := Ground.guard }], guard := some (7, true) }) (v := ?_) rfl (by kernel_rfl) (by kernel_rfl) (by kernel_rfl) (fun _ _ _ h => h) (Or.inl ⟨by rfl, ?_⟩) (by assumption) ?_
            rotate_left
            · (intro wq hSw; (try dsimp only at hSw);  have pa := (hSw.cell (p := ⟨ba, oa, none⟩) zza).trans PA.out; have pb := (hSw.cell (p := ⟨bb, ob, none⟩) zzb).trans PB.out; clear hSw; go_simp; first | done | with_reducible rfl)
            try simp only [Act.put, List.setIfInBounds_toArray, List.set_cons_zero, List.set_cons_succ]
            refine wpAnyH_take (i := 10) (oi := { dst := some 29, op := Op.load 9 (Operand.tmp 28), type := 9, pos := "keys.go:87", after := #[{ on := 9, ground := Ground.data }, { on := 7, ground := Ground.guard }], guard := some (7, true) }) (v := ?_) rfl (by kernel_rfl) (by kernel_rfl) (by kernel_rfl) (fun _ _ _ h => h) (Or.inl ⟨by rfl, ?_⟩) (by assumption) ?_
            rotate_left
            · (intro wq hSw; (try dsimp only at hSw);  have pa := (hSw.cell (p := ⟨ba, oa, none⟩) zza).trans PA.out; have pb := (hSw.cell (p := ⟨bb, ob, none⟩) zzb).trans PB.out; clear hSw; go_simp; first | done | with_reducible rfl)
            try simp only [Act.put, List.setIfInBounds_toArray, List.set_cons_zero, List.set_cons_succ]
            refine wpAnyH_take (i := 11) (oi := { dst := some 30, op := Op.move (Operand.tmp 1), type := 99, pos := "keys.go:87", after := #[{ on := 7, ground := Ground.guard }], guard := some (7, true) }) (v := ?_) rfl (by kernel_rfl) (by kernel_rfl) (by kernel_rfl) (fun _ _ _ h => h) (Or.inl ⟨by rfl, ?_⟩) (by assumption) ?_
            rotate_left
            · (intro wq hSw; (try dsimp only at hSw);  have pa := (hSw.cell (p := ⟨ba, oa, none⟩) zza).trans PA.out; have pb := (hSw.cell (p := ⟨bb, ob, none⟩) zzb).trans PB.out; clear hSw; go_simp; first | done | with_reducible rfl)
            try simp only [Act.put, List.setIfInBounds_toArray, List.set_cons_zero, List.set_cons_succ]
            refine wpAnyH_take (i := 12) (oi := { dst := some 31, op := Op.indexAddr 99 (Operand.tmp 30) (Operand.const (Value.int IntKind.i64 0)), type := 0, pos := "keys.go:87", after := #[{ on := 11, ground := Ground.data }, { on := 7, ground := Ground.guard }], guard := some (7, true) }) (v := ?_) rfl (by kernel_rfl) (by kernel_rfl) (by kernel_rfl) (fun _ _ _ h => h) (Or.inl ⟨by rfl, ?_⟩) (by assumption) ?_
            rotate_left
            · (intro wq hSw; (try dsimp only at hSw);  have pa := (hSw.cell (p := ⟨ba, oa, none⟩) zza).trans PA.out; have pb := (hSw.cell (p := ⟨bb, ob, none⟩) zzb).trans PB.out; clear hSw; go_simp; first | done | with_reducible rfl)
            try simp only [Act.put, List.setIfInBounds_toArray, List.set_cons_zero, List.set_cons_succ]
            refine wpAnyH_take (i := 13) (oi := { dst := some 32, op := Op.load 9 (Operand.tmp 31), type := 9, pos := "keys.go:87", after := #[{ on := 12, ground := Ground.data }, { on := 7, ground := Ground.guard }], guard := some (7, true) }) (v := ?_) rfl (by kernel_rfl) (by kernel_rfl) (by kernel_rfl) (fun _ _ _ h => h) (Or.inl ⟨by rfl, ?_⟩) (by assumption) ?_
            rotate_left
            · (intro wq hSw; (try dsimp only at hSw);  have pa := (hSw.cell (p := ⟨ba, oa, none⟩) zza).trans PA.out; have pb := (hSw.cell (p := ⟨bb, ob, none⟩) zzb).trans PB.out; clear hSw; go_simp; first | done | with_reducible rfl)
            try simp only [Act.put, List.setIfInBounds_toArray, List.set_cons_zero, List.set_cons_succ]
            refine wpAnyH_take (i := 14) (oi := { dst := some 33, op := Op.binOp BinOp.leq 9 (Operand.tmp 29) (Operand.tmp 32) 9, type := 4, pos := "keys.go:87", after := #[{ on := 10, ground := Ground.data }, { on := 13, ground := Ground.data }, { on := 7, ground := Ground.guard }], guard := some (7, true) }) (v := ?_) rfl (by kernel_rfl) (by kernel_rfl) (by kernel_rfl) (fun _ _ _ h => h) (Or.inl ⟨by rfl, ?_⟩) (by assumption) ?_
            rotate_left
            · (intro wq hSw; (try dsimp only at hSw);  have pa := (hSw.cell (p := ⟨ba, oa, none⟩) zza).trans PA.out; have pb := (hSw.cell (p := ⟨bb, ob, none⟩) zzb).trans PB.out; clear hSw; go_simp; first | done | with_reducible rfl)
            try simp only [Act.put, List.setIfInBounds_toArray, List.set_cons_zero, List.set_cons_succ]
            refine wpAnyH_take (i := 15) (oi := { dst := some 34, op := Op.pick (Operand.tmp 26) (Operand.tmp 33) (Operand.const (Value.bool false)), type := 4, pos := "keys.go:87", after := #[{ on := 7, ground := Ground.data }, { on := 14, ground := Ground.data }, { on := 3, ground := Ground.guard }], guard := some (3, false) }) (v := ?_) rfl (by kernel_rfl) (by kernel_rfl) (by kernel_rfl) (fun _ _ _ h => h) (Or.inl ⟨by rfl, ?_⟩) (by assumption) ?_
            rotate_left
            · (intro wq hSw; (try dsimp only at hSw);  have pa := (hSw.cell (p := ⟨ba, oa, none⟩) zza).trans PA.out; have pb := (hSw.cell (p := ⟨bb, ob, none⟩) zzb).trans PB.out; clear hSw; go_simp; first | done | with_reducible rfl)
            try simp only [Act.put, List.setIfInBounds_toArray, List.set_cons_zero, List.set_cons_succ]
            refine wpAnyH_take (i := 16) (oi := { dst := some 35, op := Op.pick (Operand.tmp 22) (Operand.const (Value.bool true)) (Operand.tmp 34), type := 4, pos := "keys.go:87", after := #[{ on := 3, ground := Ground.data }, { on := 15, ground := Ground.data }], guard := none }) (v := ?_) rfl (by kernel_rfl) (by kernel_rfl) (by kernel_rfl) (fun _ _ _ h => h) (Or.inl ⟨by rfl, ?_⟩) (by assumption) ?_
            rotate_left
            · (intro wq hSw; (try dsimp only at hSw);  have pa := (hSw.cell (p := ⟨ba, oa, none⟩) zza).trans PA.out; have pb := (hSw.cell (p := ⟨bb, ob, none⟩) zzb).trans PB.out; clear hSw; go_simp; first | done | with_reducible rfl)
            try simp only [Act.put, List.setIfInBounds_toArray, List.set_cons_zero, List.set_cons_succ]
            refine wpAnyH_take (i := 17) (oi := { dst := some 8, op := Op.assign (Operand.tmp 35), type := 4, pos := "keys.go:87", after := #[{ on := 16, ground := Ground.data }, { on := 7, ground := Ground.chain }, { on := 0, ground := Ground.phase }, { on := 1, ground := Ground.phase }, { on := 2, ground := Ground.phase }, { on := 3, ground := Ground.phase }, { on := 4, ground := Ground.phase }, { on := 5, ground := Ground.phase }, { on := 6, ground := Ground.phase }, { on := 7, ground := Ground.phase }, { on := 8, ground := Ground.phase }, { on := 9, ground := Ground.phase }, { on := 10, ground := Ground.phase }, { on := 11, ground := Ground.phase }, { on := 12, ground := Ground.phase }, { on := 13, ground := Ground.phase }, { on := 14, ground := Ground.phase }, { on := 15, ground := Ground.phase }, { on := 16, ground := Ground.phase }], guard := none }) (v := ?_) rfl (by kernel_rfl) (by kernel_rfl) (by kernel_rfl) (fun _ _ _ h => h) (Or.inl ⟨by rfl, ?_⟩) (by assumption) ?_
            rotate_left
            · (intro wq hSw; (try dsimp only at hSw);  have pa := (hSw.cell (p := ⟨ba, oa, none⟩) zza).trans PA.out; have pb := (hSw.cell (p := ⟨bb, ob, none⟩) zzb).trans PB.out; clear hSw; go_simp; first | done | with_reducible rfl)
            try simp only [Act.put, List.setIfInBounds_toArray, List.set_cons_zero, List.set_cons_succ]
            refine wpAnyH_done (by kernel_rfl) ?_ _
            have BL := Lib.hid (BL.out.trans (hHeld.mono BL.out.size))
            have OW := Lib.hid (i_own_below OW.out hHeld)
            have PA := Lib.hid ((hHeld.cell (p := ⟨ba, oa, none⟩) zza).trans PA.out)
            have zza : ba < x0.heap.size := Nat.lt_of_lt_of_le zza hHeld.size
            have PB := Lib.hid ((hHeld.cell (p := ⟨bb, ob, none⟩) zzb).trans PB.out)
            have zzb : bb < x0.heap.size := Nat.lt_of_lt_of_le zzb hHeld.size
            clear hHeld
            go_upto_region 4 with fail
            refine wp_region_held_drew (S := (fun w' => Below x0.heap.size x0 w')) (by kernel_rfl) (i_to_drew (Below.refl _ _)) (fun hHeld => ?_)
            obtain ⟨x1, hv0⟩ : ∃ v0, v0 = x0.drew := ⟨_, rfl⟩
            rw [← hv0] at hHeld ⊢
            clear hv0
            refine wpAnyH_take (i := 0) (oi := { dst := some 36, op := Op.move (Operand.tmp 0), type := 99, pos := "keys.go:88", after := #[], guard := none }) (v := ?_) rfl (by kernel_rfl) (by kernel_rfl) (by kernel_rfl) (fun _ _ _ h => h) (Or.inl ⟨by rfl, ?_⟩) (by assumption) ?_
            rotate_left
            · (intro wq hSw; (try dsimp only at hSw);  have pa := (hSw.cell (p := ⟨ba, oa, none⟩) zza).trans PA.out; have pb := (hSw.cell (p := ⟨bb, ob, none⟩) zzb).trans PB.out; clear hSw; go_simp; first | done | with_reducible rfl)
            try simp only [Act.put, List.setIfInBounds_toArray, List.set_cons_zero, List.set_cons_succ]
            refine wpAnyH_take (i := 1) (oi := { dst := some 37, op := Op.call { callee := Callee.builtin Builtin.len, args := #[Operand.tmp 36], argTypes := #[99] }, type := 3, pos := "keys.go:88", after := #[{ on := 0, ground := Ground.data }], guard := none }) (v := ?_) rfl (by kernel_rfl) (by kernel_rfl) (by kernel_rfl) (fun _ _ _ h => h) (Or.inl ⟨by rfl, ?_⟩) (by assumption) ?_
            rotate_left
            · (intro wq hSw; (try dsimp only at hSw);  have pa := (hSw.cell (p := ⟨ba, oa, none⟩) zza).trans PA.out; have pb := (hSw.cell (p := ⟨bb, ob, none⟩) zzb).trans PB.out; clear hSw; go_simp; first | done | with_reducible rfl)
            try simp only [Act.put, List.setIfInBounds_toArray, List.set_cons_zero, List.set_cons_succ]
            refine wpAnyH_take (i := 2) (oi := { dst := some 38, op := Op.binOp BinOp.eql 3 (Operand.tmp 37) (Operand.const (Value.int IntKind.i64 0)) 3, type := 4, pos := "keys.go:88", after := #[{ on := 1, ground := Ground.data }], guard := none }) (v := ?_) rfl (by kernel_rfl) (by kernel_rfl) (by kernel_rfl) (fun _ _ _ h => h) (Or.inl ⟨by rfl, ?_⟩) (by assumption) ?_
            rotate_left
            · (intro wq hSw; (try dsimp only at hSw);  have pa := (hSw.cell (p := ⟨ba, oa, none⟩) zza).trans PA.out; have pb := (hSw.cell (p := ⟨bb, ob, none⟩) zzb).trans PB.out; clear hSw; go_simp; first | done | with_reducible rfl)
            try simp only [Act.put, List.setIfInBounds_toArray, List.set_cons_zero, List.set_cons_succ]
            refine wpAnyH_take (i := 3) (oi := { dst := some 39, op := Op.move (Operand.tmp 38), type := 4, pos := "keys.go:88", after := #[{ on := 2, ground := Ground.data }], guard := none }) (v := ?_) rfl (by kernel_rfl) (by kernel_rfl) (by kernel_rfl) (fun _ _ _ h => h) (Or.inl ⟨by rfl, ?_⟩) (by assumption) ?_
            rotate_left
            · (intro wq hSw; (try dsimp only at hSw);  have pa := (hSw.cell (p := ⟨ba, oa, none⟩) zza).trans PA.out; have pb := (hSw.cell (p := ⟨bb, ob, none⟩) zzb).trans PB.out; clear hSw; go_simp; first | done | with_reducible rfl)
            try simp only [Act.put, List.setIfInBounds_toArray, List.set_cons_zero, List.set_cons_succ]
            refine wpAnyH_take (i := 4) (oi := { dst := some 40, op := Op.move (Operand.tmp 1), type := 99, pos := "keys.go:88", after := #[{ on := 3, ground := Ground.guard }], guard := some (3, false) }) (v := ?_) rfl (by kernel_rfl) (by kernel_rfl) (by kernel_rfl) (fun _ _ _ h => h) (Or.inl ⟨by rfl, ?_⟩) (by assumption) ?_
            rotate_left
            · (intro wq hSw; (try dsimp only at hSw);  have pa := (hSw.cell (p := ⟨ba, oa, none⟩) zza).trans PA.out; have pb := (hSw.cell (p := ⟨bb, ob, none⟩) zzb).trans PB.out; clear hSw; go_simp; first | done | with_reducible rfl)
            try simp only [Act.put, List.setIfInBounds_toArray, List.set_cons_zero, List.set_cons_succ]
            refine wpAnyH_take (i := 5) (oi := { dst := some 41, op := Op.call { callee := Callee.builtin Builtin.len, args := #[Operand.tmp 40], argTypes := #[99] }, type := 3, pos := "keys.go:88", after := #[{ on := 4, ground := Ground.data }, { on := 3, ground := Ground.guard }], guard := some (3, false) }) (v := ?_) rfl (by kernel_rfl) (by kernel_rfl) (by kernel_rfl) (fun _ _ _ h => h) (Or.inl ⟨by rfl, ?_⟩) (by assumption) ?_
            rotate_left
            · (intro wq hSw; (try dsimp only at hSw);  have pa := (hSw.cell (p := ⟨ba, oa, none⟩) zza).trans PA.out; have pb := (hSw.cell (p := ⟨bb, ob, none⟩) zzb).trans PB.out; clear hSw; go_simp; first | done | with_reducible rfl)
            try simp only [Act.put, List.setIfInBounds_toArray, List.set_cons_zero, List.set_cons_succ]
            refine wpAnyH_take (i := 6) (oi := { dst := some 42, op := Op.binOp BinOp.gtr 3 (Operand.tmp 41) (Operand.const (Value.int IntKind.i64 0)) 3, type := 4, pos := "keys.go:88", after := #[{ on := 5, ground := Ground.data }, { on := 3, ground := Ground.guard }], guard := some (3, false) }) (v := ?_) rfl (by kernel_rfl) (by kernel_rfl) (by kernel_rfl) (fun _ _ _ h => h) (Or.inl ⟨by rfl, ?_⟩) (by assumption) ?_
            rotate_left
            · (intro wq hSw; (try dsimp only at hSw);  have pa := (hSw.cell (p := ⟨ba, oa, none⟩) zza).trans PA.out; have pb := (hSw.cell (p := ⟨bb, ob, none⟩) zzb).trans PB.out; clear hSw; go_simp; first | done | with_reducible rfl)
            try simp only [Act.put, List.setIfInBounds_toArray, List.set_cons_zero, List.set_cons_succ]
            refine wpAnyH_take (i := 7) (oi := { dst := some 43, op := Op.move (Operand.tmp 42), type := 4, pos := "keys.go:88", after := #[{ on := 6, ground := Ground.data }, { on := 3, ground := Ground.chain }, { on := 3, ground := Ground.guard }], guard := some (3, false) }) (v := ?_) rfl (by kernel_rfl) (by kernel_rfl) (by kernel_rfl) (fun _ _ _ h => h) (Or.inl ⟨by rfl, ?_⟩) (by assumption) ?_
            rotate_left
            · (intro wq hSw; (try dsimp only at hSw);  have pa := (hSw.cell (p := ⟨ba, oa, none⟩) zza).trans PA.out; have pb := (hSw.cell (p := ⟨bb, ob, none⟩) zzb).trans PB.out; clear hSw; go_simp; first | done | with_reducible rfl)
            try simp only [Act.put, List.setIfInBounds_toArray, List.set_cons_zero, List.set_cons_succ]
            refine wpAnyH_take (i := 8) (oi := { dst := some 44, op := Op.move (Operand.tmp 1), type := 99, pos := "keys.go:88", after := #[{ on := 7, ground := Ground.guard }], guard := some (7, true) }) (v := ?_) rfl (by kernel_rfl) (by kernel_rfl) (by kernel_rfl) (fun _ _ _ h => h) (Or.inl ⟨by rfl, ?_⟩) (by assumption) ?_
            rotate_left
            · (intro wq hSw; (try dsimp only at hSw);  have pa := (hSw.cell (p := ⟨ba, oa, none⟩) zza).trans PA.out; have pb := (hSw.cell (p := ⟨bb, ob, none⟩) zzb).trans PB.out; clear hSw; go_simp; first | done | with_reducible rfl)
            try simp only [Act.put, List.setIfInBounds_toArray, List.set_cons_zero, List.set_cons_succ]
            refine wpAnyH_take (i := 9) (oi := { dst := some 45, op := Op.indexAddr 99 (Operand.tmp 44) (Operand.const (Value.int IntKind.i64 0)), type := 0, pos := "keys.go:88", after := #[{ on := 8, ground := Ground.data }, { on := 7, ground := Ground.guard }], guard := some (7, true) }) (v := ?_) rfl (by kernel_rfl) (by kernel_rfl) (by kernel_rfl) (fun _ _ _ h => h) (Or.inl ⟨by rfl, ?_⟩) (by assumption) ?_
            rotate_left
            · (intro wq hSw; (try dsimp only at hSw);  have pa := (hSw.cell (p := ⟨ba, oa, none⟩) zza).trans PA.out; have pb := (hSw.cell (p := ⟨bb, ob, none⟩) zzb).trans PB.out; clear hSw; go_simp; first | done | with_reducible rfl)
            try simp only [Act.put, List.setIfInBounds_toArray, List.set_cons_zero, List.set_cons_succ]
            refine wpAnyH_take (i := 10) (oi := { dst := some 46, op := Op.load 9 (Operand.tmp 45), type := 9, pos := "keys.go:88", after := #[{ on := 9, ground := Ground.data }, { on := 7, ground := Ground.guard }], guard := some (7, true) }) (v := ?_) rfl (by kernel_rfl) (by kernel_rfl) (by kernel_rfl) (fun _ _ _ h => h) (Or.inl ⟨by rfl, ?_⟩) (by assumption) ?_
            rotate_left
            · (intro wq hSw; (try dsimp only at hSw);  have pa := (hSw.cell (p := ⟨ba, oa, none⟩) zza).trans PA.out; have pb := (hSw.cell (p := ⟨bb, ob, none⟩) zzb).trans PB.out; clear hSw; go_simp; first | done | with_reducible rfl)
            try simp only [Act.put, List.setIfInBounds_toArray, List.set_cons_zero, List.set_cons_succ]
            refine wpAnyH_take (i := 11) (oi := { dst := some 47, op := Op.move (Operand.tmp 0), type := 99, pos := "keys.go:88", after := #[{ on := 7, ground := Ground.guard }], guard := some (7, true) }) (v := ?_) rfl (by kernel_rfl) (by kernel_rfl) (by kernel_rfl) (fun _ _ _ h => h) (Or.inl ⟨by rfl, ?_⟩) (by assumption) ?_
            rotate_left
            · (intro wq hSw; (try dsimp only at hSw);  have pa := (hSw.cell (p := ⟨ba, oa, none⟩) zza).trans PA.out; have pb := (hSw.cell (p := ⟨bb, ob, none⟩) zzb).trans PB.out; clear hSw; go_simp; first | done | with_reducible rfl)
            try simp only [Act.put, List.setIfInBounds_toArray, List.set_cons_zero, List.set_cons_succ]
            refine wpAnyH_take (i := 12) (oi := { dst := some 48, op := Op.indexAddr 99 (Operand.tmp 47) (Operand.const (Value.int IntKind.i64 0)), type := 0, pos := "keys.go:88", after := #[{ on := 11, ground := Ground.data }, { on := 7, ground := Ground.guard }], guard := some (7, true) }) (v := ?_) rfl (by kernel_rfl) (by kernel_rfl) (by kernel_rfl) (fun _ _ _ h => h) (Or.inl ⟨by rfl, ?_⟩) (by assumption) ?_
            rotate_left
            · (intro wq hSw; (try dsimp only at hSw);  have pa := (hSw.cell (p := ⟨ba, oa, none⟩) zza).trans PA.out; have pb := (hSw.cell (p := ⟨bb, ob, none⟩) zzb).trans PB.out; clear hSw; go_simp; first | done | with_reducible rfl)
            try simp only [Act.put, List.setIfInBounds_toArray, List.set_cons_zero, List.set_cons_succ]
            refine wpAnyH_take (i := 13) (oi := { dst := some 49, op := Op.load 9 (Operand.tmp 48), type := 9, pos := "keys.go:88", after := #[{ on := 12, ground := Ground.data }, { on := 7, ground := Ground.guard }], guard := some (7, true) }) (v := ?_) rfl (by kernel_rfl) (by kernel_rfl) (by kernel_rfl) (fun _ _ _ h => h) (Or.inl ⟨by rfl, ?_⟩) (by assumption) ?_
            rotate_left
            · (intro wq hSw; (try dsimp only at hSw);  have pa := (hSw.cell (p := ⟨ba, oa, none⟩) zza).trans PA.out; have pb := (hSw.cell (p := ⟨bb, ob, none⟩) zzb).trans PB.out; clear hSw; go_simp; first | done | with_reducible rfl)
            try simp only [Act.put, List.setIfInBounds_toArray, List.set_cons_zero, List.set_cons_succ]
            refine wpAnyH_take (i := 14) (oi := { dst := some 50, op := Op.binOp BinOp.leq 9 (Operand.tmp 46) (Operand.tmp 49) 9, type := 4, pos := "keys.go:88", after := #[{ on := 10, ground := Ground.data }, { on := 13, ground := Ground.data }, { on := 7, ground := Ground.guard }], guard := some (7, true) }) (v := ?_) rfl (by kernel_rfl) (by kernel_rfl) (by kernel_rfl) (fun _ _ _ h => h) (Or.inl ⟨by rfl, ?_⟩) (by assumption) ?_
            rotate_left
            · (intro wq hSw; (try dsimp only at hSw);  have pa := (hSw.cell (p := ⟨ba, oa, none⟩) zza).trans PA.out; have pb := (hSw.cell (p := ⟨bb, ob, none⟩) zzb).trans PB.out; clear hSw; go_simp; first | done | with_reducible rfl)
            try simp only [Act.put, List.setIfInBounds_toArray, List.set_cons_zero, List.set_cons_succ]
            refine wpAnyH_take (i := 15) (oi := { dst := some 51, op := Op.pick (Operand.tmp 43) (Operand.tmp 50) (Operand.const (Value.bool false)), type := 4, pos := "keys.go:88", after := #[{ on := 7, ground := Ground.data }, { on := 14, ground := Ground.data }, { on := 3, ground := Ground.guard }], guard := some (3, false) }) (v := ?_) rfl (by kernel_rfl) (by kernel_rfl) (by kernel_rfl) (fun _ _ _ h => h) (Or.inl ⟨by rfl, ?_⟩) (by assumption) ?_
            rotate_left
            · (intro wq hSw; (try dsimp only at hSw);  have pa := (hSw.cell (p := ⟨ba, oa, none⟩) zza).trans PA.out; have pb := (hSw.cell (p := ⟨bb, ob, none⟩) zzb).trans PB.out; clear hSw; go_simp; first | done | with_reducible rfl)
            try simp only [Act.put, List.setIfInBounds_toArray, List.set_cons_zero, List.set_cons_succ]
            refine wpAnyH_take (i := 16) (oi := { dst := some 52, op := Op.pick (Operand.tmp 39) (Operand.const (Value.bool true)) (Operand.tmp 51), type := 4, pos := "keys.go:88", after := #[{ on := 3, ground := Ground.data }, { on := 15, ground := Ground.data }], guard := none }) (v := ?_) rfl (by kernel_rfl) (by kernel_rfl) (by kernel_rfl) (fun _ _ _ h => h) (Or.inl ⟨by rfl, ?_⟩) (by assumption) ?_
            rotate_left
            · (intro wq hSw; (try dsimp only at hSw);  have pa := (hSw.cell (p := ⟨ba, oa, none⟩) zza).trans PA.out; have pb := (hSw.cell (p := ⟨bb, ob, none⟩) zzb).trans PB.out; clear hSw; go_simp; first | done | with_reducible rfl)
            try simp only [Act.put, List.setIfInBounds_toArray, List.set_cons_zero, List.set_cons_succ]
            refine wpAnyH_take (i := 17) (oi := { dst := some 9, op := Op.assign (Operand.tmp 52), type := 4, pos := "keys.go:88", after := #[{ on := 16, ground := Ground.data }, { on := 7, ground := Ground.chain }, { on := 0, ground := Ground.phase }, { on := 1, ground := Ground.phase }, { on := 2, ground := Ground.phase }, { on := 3, ground := Ground.phase }, { on := 4, ground := Ground.phase }, { on := 5, ground := Ground.phase }, { on := 6, ground := Ground.phase }, { on := 7, ground := Ground.phase }, { on := 8, ground := Ground.phase }, { on := 9, ground := Ground.phase }, { on := 10, ground := Ground.phase }, { on := 11, ground := Ground.phase }, { on := 12, ground := Ground.phase }, { on := 13, ground := Ground.phase }, { on := 14, ground := Ground.phase }, { on := 15, ground := Ground.phase }, { on := 16, ground := Ground.phase }], guard := none }) (v := ?_) rfl (by kernel_rfl) (by kernel_rfl) (by kernel_rfl) (fun _ _ _ h => h) (Or.inl ⟨by rfl, ?_⟩) (by assumption) ?_
            rotate_left
            · (intro wq hSw; (try dsimp only at hSw);  have pa := (hSw.cell (p := ⟨ba, oa, none⟩) zza).trans PA.out; have pb := (hSw.cell (p := ⟨bb, ob, none⟩) zzb).trans PB.out; clear hSw; go_simp; first | done | with_reducible rfl)
            try simp only [Act.put, List.setIfInBounds_toArray, List.set_cons_zero, List.set_cons_succ]
            refine wpAnyH_done (by kernel_rfl) ?_ _
            have BL := Lib.hid (BL.out.trans (hHeld.mono BL.out.size))
            have OW := Lib.hid (i_own_below OW.out hHeld)
            have PA := Lib.hid ((hHeld.cell (p := ⟨ba, oa, none⟩) zza).trans PA.out)
            have zza : ba < x1.heap.size := Nat.lt_of_lt_of_le zza hHeld.size
            have PB := Lib.hid ((hHeld.cell (p := ⟨bb, ob, none⟩) zzb).trans PB.out)
            have zzb : bb < x1.heap.size := Nat.lt_of_lt_of_le zzb hHeld.size
            clear hHeld
            go_upto_region 7 with fail
            refine wp_region_held_drew (S := (fun w' => Below x1.heap.size x1 w')) (by kernel_rfl) (i_to_drew (Below.refl _ _)) (fun hHeld => ?_)
            obtain ⟨x2, hv0⟩ : ∃ v0, v0 = x1.drew := ⟨_, rfl⟩
            rw [← hv0] at hHeld ⊢
            clear hv0
            refine wpAnyH_take (i := 0) (oi := { dst := some 54, op := Op.move (Operand.tmp 0), type := 99, pos := "keys.go:91", after := #[], guard := none }) (v := ?_) rfl (by kernel_rfl) (by kernel_rfl) (by kernel_rfl) (fun _ _ _ h => h) (Or.inl ⟨by rfl, ?_⟩) (by assumption) ?_
            rotate_left
            · (intro wq hSw; (try dsimp only at hSw);  have pa := (hSw.cell (p := ⟨ba, oa, none⟩) zza).trans PA.out; have pb := (hSw.cell (p := ⟨bb, ob, none⟩) zzb).trans PB.out; clear hSw; go_simp; first | done | with_reducible rfl)
            try simp only [Act.put, List.setIfInBounds_toArray, List.set_cons_zero, List.set_cons_succ]
            refine wpAnyH_take (i := 1) (oi := { dst := some 55, op := Op.indexAddr 99 (Operand.tmp 54) (Operand.const (Value.int IntKind.i64 0)), type := 0, pos := "keys.go:91", after := #[{ on := 0, ground := Ground.data }], guard := none }) (v := ?_) rfl (by kernel_rfl) (by kernel_rfl) (by kernel_rfl) (fun _ _ _ h => h) (Or.inl ⟨by rfl, ?_⟩) (by assumption) ?_
            rotate_left
            · (intro wq hSw; (try dsimp only at hSw);  have pa := (hSw.cell (p := ⟨ba, oa, none⟩) zza).trans PA.out; have pb := (hSw.cell (p := ⟨bb, ob, none⟩) zzb).trans PB.out; clear hSw; go_simp; first | done | with_reducible rfl)
            try simp only [Act.put, List.setIfInBounds_toArray, List.set_cons_zero, List.set_cons_succ]
            refine wpAnyH_take (i := 2) (oi := { dst := some 56, op := Op.load 9 (Operand.tmp 55), type := 9, pos := "keys.go:91", after := #[{ on := 1, ground := Ground.data }], guard := none }) (v := ?_) rfl (by kernel_rfl) (by kernel_rfl) (by kernel_rfl) (fun _ _ _ h => h) (Or.inl ⟨by rfl, ?_⟩) (by assumption) ?_
            rotate_left
            · (intro wq hSw; (try dsimp only at hSw);  have pa := (hSw.cell (p := ⟨ba, oa, none⟩) zza).trans PA.out; have pb := (hSw.cell (p := ⟨bb, ob, none⟩) zzb).trans PB.out; clear hSw; go_simp; first | done | with_reducible rfl)
            try simp only [Act.put, List.setIfInBounds_toArray, List.set_cons_zero, List.set_cons_succ]
            refine wpAnyH_take (i := 3) (oi := { dst := some 57, op := Op.move (Operand.tmp 0), type := 99, pos := "keys.go:91", after := #[], guard := none }) (v := ?_) rfl (by kernel_rfl) (by kernel_rfl) (by kernel_rfl) (fun _ _ _ h => h) (Or.inl ⟨by rfl, ?_⟩) (by assumption) ?_
            rotate_left
            · (intro wq hSw; (try dsimp only at hSw);  have pa := (hSw.cell (p := ⟨ba, oa, none⟩) zza).trans PA.out; have pb := (hSw.cell (p := ⟨bb, ob, none⟩) zzb).trans PB.out; clear hSw; go_simp; first | done | with_reducible rfl)
            try simp only [Act.put, List.setIfInBounds_toArray, List.set_cons_zero, List.set_cons_succ]
            refine wpAnyH_take (i := 4) (oi := { dst := some 58, op := Op.slice 99 (Operand.tmp 57) (some (Operand.const (Value.int IntKind.i64 1))) none none, type := 99, pos := "keys.go:91", after := #[{ on := 3, ground := Ground.data }], guard := none }) (v := ?_) rfl (by kernel_rfl) (by kernel_rfl) (by kernel_rfl) (fun _ _ _ h => h) (Or.inl ⟨by rfl, ?_⟩) (by assumption) ?_
            rotate_left
            · (intro wq hSw; (try dsimp only at hSw);  have pa := (hSw.cell (p := ⟨ba, oa, none⟩) zza).trans PA.out; have pb := (hSw.cell (p := ⟨bb, ob, none⟩) zzb).trans PB.out; clear hSw; go_simp; first | done | with_reducible rfl)
            try simp only [Act.put, List.setIfInBounds_toArray, List.set_cons_zero, List.set_cons_succ]
            refine wpAnyH_take (i := 5) (oi := { dst := some 10, op := Op.assign (Operand.tmp 56), type := 9, pos := "keys.go:91", after := #[{ on := 2, ground := Ground.data }, { on := 0, ground := Ground.phase }, { on := 1, ground := Ground.phase }, { on := 2, ground := Ground.phase }, { on := 3, ground := Ground.textOnly Departure.lateStores }, { on := 4, ground := Ground.textOnly Departure.lateStoresUnsure }], guard := none }) (v := ?_) rfl (by kernel_rfl) (by kernel_rfl) (by kernel_rfl) (fun _ _ _ h => h) (Or.inl ⟨by rfl, ?_⟩) (by assumption) ?_
            rotate_left
            · (intro wq hSw; (try dsimp only at hSw);  have pa := (hSw.cell (p := ⟨ba, oa, none⟩) zza).trans PA.out; have pb := (hSw.cell (p := ⟨bb, ob, none⟩) zzb).trans PB.out; clear hSw; go_simp; first | done | with_reducible rfl)
            try simp only [Act.put, List.setIfInBounds_toArray, List.set_cons_zero, List.set_cons_succ]
            refine wpAnyH_take (i := 6) (oi := { dst := some 0, op := Op.assign (Operand.tmp 58), type := 99, pos := "keys.go:91", after := #[{ on := 4, ground := Ground.data }, { on := 5, ground := Ground.chain }, { on := 0, ground := Ground.phase }, { on := 1, ground := Ground.phase }, { on := 2, ground := Ground.phase }, { on := 3, ground := Ground.phase }, { on := 4, ground := Ground.phase }, { on := 5, ground := Ground.phase }], guard := none }) (v := ?_) rfl (by kernel_rfl) (by kernel_rfl) (by kernel_rfl) (fun _ _ _ h => h) (Or.inl ⟨by rfl, ?_⟩) (by assumption) ?_
            rotate_left
            · (intro wq hSw; (try dsimp only at hSw);  have pa := (hSw.cell (p := ⟨ba, oa, none⟩) zza).trans PA.out; have pb := (hSw.cell (p := ⟨bb, ob, none⟩) zzb).trans PB.out; clear hSw; go_simp; first | done | with_reducible rfl)
            try simp only [Act.put, List.setIfInBounds_toArray, List.set_cons_zero]
            refine wpAnyH_done (by kernel_rfl) ?_ _
            have BL := Lib.hid (BL.out.trans (hHeld.mono BL.out.size))
            have OW := Lib.hid (i_own_below OW.out hHeld)
            have PA := Lib.hid ((hHeld.cell (p := ⟨ba, oa, none⟩) zza).trans PA.out)
            have zza : ba < x2.heap.size := Nat.lt_of_lt_of_le zza hHeld.size
            have PB := Lib.hid ((hHeld.cell (p := ⟨bb, ob, none⟩) zzb).trans PB.out)
            have zzb : bb < x2.heap.size := Nat.lt_of_lt_of_le zzb hHeld.size
            clear hHeld
            go_upto_region 9 with fail
            refine wp_region_held_drew (S := (fun w' => Below x2.heap.size x2 w')) (by kernel_rfl) (i_to_drew (Below.refl _ _)) (fun hHeld => ?_)
            obtain ⟨x3, hv0⟩ : ∃ v0, v0 = x2.drew := ⟨_, rfl⟩
            rw [← hv0] at hHeld ⊢
            clear hv0
            refine wpAnyH_take (i := 0) (oi := { dst := some 60, op := Op.move (Operand.tmp 1), type := 99, pos := "keys.go:94", after := #[], guard := none }) (v := ?_) rfl (by kernel_rfl) (by kernel_rfl) (by kernel_rfl) (fun _ _ _ h => h) (Or.inl ⟨by rfl, ?_⟩) (by assumption) ?_
            rotate_left
            · (intro wq hSw; (try dsimp only at hSw);  have pa := (hSw.cell (p := ⟨ba, oa, none⟩) zza).trans PA.out; have pb := (hSw.cell (p := ⟨bb, ob, none⟩) zzb).trans PB.out; clear hSw; go_simp; first | done | with_reducible rfl)
            try simp only [Act.put, List.setIfInBounds_toArray, List.set_cons_zero, List.set_cons_succ]
            refine wpAnyH_take (i := 1) (oi := { dst := some 61, op := Op.indexAddr 99 (Operand.tmp 60) (Operand.const (Value.int IntKind.i64 0)), type := 0, pos := "keys.go:94", after := #[{ on := 0, ground := Ground.data }], guard := none }) (v := ?_) rfl (by kernel_rfl) (by kernel_rfl) (by kernel_rfl) (fun _ _ _ h => h) (Or.inl ⟨by rfl, ?_⟩) (by assumption) ?_
            rotate_left
            · (intro wq hSw; (try dsimp only at hSw);  have pa := (hSw.cell (p := ⟨ba, oa, none⟩) zza).trans PA.out; have pb := (hSw.cell (p := ⟨bb, ob, none⟩) zzb).trans PB.out; clear hSw; go_simp; first | done | with_reducible rfl)
            try simp only [Act.put, List.setIfInBounds_toArray, List.set_cons_zero, List.set_cons_succ]
            refine wpAnyH_take (i := 2) (oi := { dst := some 62, op := Op.load 9 (Operand.tmp 61), type := 9, pos := "keys.go:94", after := #[{ on := 1, ground := Ground.data }], guard := none }) (v := ?_) rfl (by kernel_rfl) (by kernel_rfl) (by kernel_rfl) (fun _ _ _ h => h) (Or.inl ⟨by rfl, ?_⟩) (by assumption) ?_
            rotate_left
            · (intro wq hSw; (try dsimp only at hSw);  have pa := (hSw.cell (p := ⟨ba, oa, none⟩) zza).trans PA.out; have pb := (hSw.cell (p := ⟨bb, ob, none⟩) zzb).trans PB.out; clear hSw; go_simp; first | done | with_reducible rfl)
            try simp only [Act.put, List.setIfInBounds_toArray, List.set_cons_zero, List.set_cons_succ]
            refine wpAnyH_take (i := 3) (oi := { dst := some 63, op := Op.move (Operand.tmp 1), type := 99, pos := "keys.go:94", after := #[], guard := none }) (v := ?_) rfl (by kernel_rfl) (by kernel_rfl) (by kernel_rfl) (fun _ _ _ h => h) (Or.inl ⟨by rfl, ?_⟩) (by assumption) ?_
            rotate_left
            · (intro wq hSw; (try dsimp only at hSw);  have pa := (hSw.cell (p := ⟨ba, oa, none⟩) zza).trans PA.out; have pb := (hSw.cell (p := ⟨bb, ob, none⟩) zzb).trans PB.out; clear hSw; go_simp; first | done | with_reducible rfl)
            try simp only [Act.put, List.setIfInBounds_toArray, List.set_cons_zero, List.set_cons_succ]
            refine wpAnyH_take (i := 4) (oi := { dst := some 64, op := Op.slice 99 (Operand.tmp 63) (some (Operand.const (Value.int IntKind.i64 1))) none none, type := 99, pos := "keys.go:94", after := #[{ on := 3, ground := Ground.data }], guard := none }) (v := ?_) rfl (by kernel_rfl) (by kernel_rfl) (by kernel_rfl) (fun _ _ _ h => h) (Or.inl ⟨by rfl, ?_⟩) (by assumption) ?_
            rotate_left
            · (intro wq hSw; (try dsimp only at hSw);  have pa := (hSw.cell (p := ⟨ba, oa, none⟩) zza).trans PA.out; have pb := (hSw.cell (p := ⟨bb, ob, none⟩) zzb).trans PB.out; clear hSw; go_simp; first | done | with_reducible rfl)
            try simp only [Act.put, List.setIfInBounds_toArray, List.set_cons_zero, List.set_cons_succ]
            refine wpAnyH_take (i := 5) (oi := { dst := some 10, op := Op.assign (Operand.tmp 62), type := 9, pos := "keys.go:94", after := #[{ on := 2, ground := Ground.data }, { on := 0, ground := Ground.phase }, { on := 1, ground := Ground.phase }, { on := 2, ground := Ground.phase }, { on := 3, ground := Ground.textOnly Departure.lateStores }, { on := 4, ground := Ground.textOnly Departure.lateStoresUnsure }], guard := none }) (v := ?_) rfl (by kernel_rfl) (by kernel_rfl) (by kernel_rfl) (fun _ _ _ h => h) (Or.inl ⟨by rfl, ?_⟩) (by assumption) ?_
            rotate_left
            · (intro wq hSw; (try dsimp only at hSw);  have pa := (hSw.cell (p := ⟨ba, oa, none⟩) zza).trans PA.out; have pb := (hSw.cell (p := ⟨bb, ob, none⟩) zzb).trans PB.out; clear hSw; go_simp; first | done | with_reducible rfl)
            try simp only [Act.put, List.setIfInBounds_toArray, List.set_cons_zero, List.set_cons_succ]
            refine wpAnyH_take (i := 6) (oi := { dst := some 1, op := Op.assign (Operand.tmp 64), type := 99, pos := "keys.go:94", after := #[{ on := 4, ground := Ground.data }, { on := 5, ground := Ground.chain }, { on := 0, ground := Ground.phase }, { on := 1, ground := Ground.phase }, { on := 2, ground := Ground.phase }, { on := 3, ground := Ground.phase }, { on := 4, ground := Ground.phase }, { on := 5, ground := Ground.phase }], guard := none }) (v := ?_) rfl (by kernel_rfl) (by kernel_rfl) (by kernel_rfl) (fun _ _ _ h => h) (Or.inl ⟨by rfl, ?_⟩) (by assumption) ?_
            rotate_left
            · (intro wq hSw; (try dsimp only at hSw);  have pa := (hSw.cell (p := ⟨ba, oa, none⟩) zza).trans PA.out; have pb := (hSw.cell (p := ⟨bb, ob, none⟩) zzb).trans PB.out; clear hSw; go_simp; first | done | with_reducible rfl)
            try simp only [Act.put, List.setIfInBounds_toArray, List.set_cons_zero, List.set_cons_succ]
            refine wpAnyH_done (by kernel_rfl) ?_ _
            have BL := Lib.hid (BL.out.trans (hHeld.mono BL.out.size))
            have OW := Lib.hid (i_own_below OW.out hHeld)
            have PA := Lib.hid ((hHeld.cell (p := ⟨ba, oa, none⟩) zza).trans PA.out)
            have zza : ba < x3.heap.size := Nat.lt_of_lt_of_le zza hHeld.size
            have PB := Lib.hid ((hHeld.cell (p := ⟨bb, ob, none⟩) zzb).trans PB.out)
            have zzb : bb < x3.heap.size := Nat.lt_of_lt_of_le zzb hHeld.size
            clear hHeld
            obtain ⟨qa, hqa⟩ : ∃ q, q = (if ca = 1 then some (⟨ba, oa, none⟩ : Addr) else some ⟨ba, oa + 1, none⟩) := ⟨_, rfl⟩
            have RA := Lib.hid (RA.out.rest (ao' := qa) (fun h => by rw [hqa, if_neg (by omega)]))
            rw [← hqa]
            clear hqa
            obtain ⟨qb, hqb⟩ : ∃ q, q = (if cb = 1 then some (⟨bb, ob, none⟩ : Addr) else some ⟨bb, ob + 1, none⟩) := ⟨_, rfl⟩
            have RB := Lib.hid (RB.out.rest (ao' := qb) (fun h => by rw [hqb, if_neg (by omega)]))
            rw [← hqb]
            clear hqb
            have KP := hk.out true true x3
            cases hk2 : keep true true
            · rw [hk2] at KP
              have M2 : Hid (mg keep A B = O ++ mg keep a b) := Lib.hid (by rw [ME.out, MS.out, hk2]; rfl)
              clear hk2
              go_wp2_with (go_at_fn g; refine KP.mono ?_; rintro e w' ⟨rfl, rfl⟩)
              go_roundg ((x :: a).length + (x :: b).length)
              case measure => exact KG.out
              case rel => exact ⟨a, b, O, ⟨by first | (simp; done) | (simp; omega), by have := KN.out; simp at this ⊢; omega⟩, BL, RA, RB, OW, M2⟩
            · rw [hk2] at KP
              have M2 : Hid (mg keep A B = (O ++ [x]) ++ mg keep a b) := Lib.hid (by rw [ME.out, MS.out, hk2]; simp [opt])
              clear hk2
              have sz := BL.out.size
              go_wp2_with (first | (go_at_fn g; refine KP.mono ?_; rintro e w' ⟨rfl, rfl⟩) | (at_builtin; refine wpList_append_own _ rfl (.tmp 69) (.tmp 71) 99 rfl w.heap.size 9 i0 (.string ⟨#[]⟩) 1 16 Try.underlying99 hi hz0 hz1 hz2 rfl (by decide) _ O.length (O.map Value.string) rfl (OW.out.alloc _) ⟨x3.heap.size, 0, none⟩ 1 1 [.string x] rfl rfl ?c1 ?c2 ?c3 ?c4 ?c5 ?_))
              case c1 => exact cell_one_new _ _ _
              case c2 => intro u hu; simp at hu; subst hu; rfl
              case c3 => unfold maxLen; omega
              case c4 => omega
              case c5 => simp; omega
              intro v2 w2 own2 grow2 _
              have B2 : Hid (Below w.heap.size w w2) := Lib.hid ((BL.out.trans ((Below.refl _ _).alloc sz _)).trans ((Below.refl _ _).grown grow2 (by simp; omega) (fun g hg => (OW.out.lt g hg).1)))
              have O3 : Hid (w2.ownsRow w.heap.size 9 1 v2 (O ++ [x]).length ((O ++ [x]).map Value.string)) := Lib.hid (by
                rw [List.length_append, List.map_append]
                exact own2)
              clear own2 grow2 BL OW
              go_wp2_with fail
              go_roundg ((x :: a).length + (x :: b).length)
              case measure => exact KG.out
              case rel => exact ⟨a, b, O ++ [x], ⟨by first | (simp; done) | (simp; omega), by have := KN.out; simp at this ⊢; omega⟩, B2, RA, RB, O3, M2⟩
end Go.Proofs.Ytcpeailodgoilaa
