/-
  Part 17: RDI, DomP.
-/
import Derived.Test.YtabgphlpdoockaaDp6
import Derived.Test.YtabgphlpdoockaaDp10
import Derived.Test.YtabgphlpdoockaaDp14
import Derived.Test.YtabgphlpdoockaaDp15
import Derived.Test.YtabgphlpdoockaaDp16
import Derived.BigQuiet
import Derived.Deep.CutBlock
import Derived.Deep.DeepCutAuto
import Derived.Deep.DrawnRows
import Derived.Deep.LoopGhost
import Derived.Deep.QuietTactic
import Derived.Deep.RegionHeld3
import Derived.Deep.RegionWith
import Derived.Lib.Hide
import Derived.WalkKit
import Derived.WalkLawsBesides
import Derived.WalkSpells
namespace Go.Proofs.Ytabgphlpdoockaa
open Go.RowKit
open Go.Op
/-- the blocks of the reference's Intersect: the two domains, the result, the domain that grows -/
structure QSt (w : World) (v : Value) (k s h : Int) (v' : Value) (k' s' h' : Int) (ob : Nat) (X : List R3) (ao : Option Addr) (cap : Nat) (wr : World) : Prop where
  below : Below w.heap.size w wr
  a : Blk w.heap.size v (.int .i64 k) (.int .i64 s) (.int .i64 h) wr
  b : Blk (w.heap.size + 1) v' (.int .i64 k') (.int .i64 s') (.int .i64 h') wr
  z : Blk (w.heap.size + 1 + 1) (.slice none 0 0) (.int .i64 0) (.int .i64 0) (.int .i64 0) wr
  r : Blk ob (.slice ao X.length cap) (.int .i64 k) (.int .i64 s) (.int .i64 h) wr
  own : wr.ownsRow (ob + 1) 23 3 (.slice ao X.length cap) X.length (cells3 X)
  lt : w.heap.size + 1 + 1 < ob
theorem QSt.under {w : World} {v : Value} {k s h : Int} {v' : Value} {k' s' h' : Int} {ob : Nat} {X : List R3} {ao : Option Addr} {cap : Nat} {wa wb : World} {B : Nat} (t : QSt w v k s h v' k' s' h' ob X ao cap wa) (hb : Below B wa wb) (hB : ob < B)
    (hr : ∀ g, (Value.slice ao X.length cap).ownBlock = some g → g < B) : QSt w v k s h v' k' s' h' ob X ao cap wb :=
  ⟨t.below.trans (hb.mono (by have := t.lt; omega)), blk_under t.a hb (by have := t.lt; omega), blk_under t.b hb (by have := t.lt; omega), blk_under t.z hb (by have := t.lt; omega), blk_under t.r hb hB, owns_under t.own hb hr, t.lt⟩
theorem QSt.keep {w : World} {v : Value} {k s h : Int} {v' : Value} {k' s' h' : Int} {ob : Nat} {X : List R3} {ao : Option Addr} {cap : Nat} {wa wb : World} (t : QSt w v k s h v' k' s' h' ob X ao cap wa) (hb : Below wa.heap.size wa wb) : QSt w v k s h v' k' s' h' ob X ao cap wb :=
  t.under hb t.r.size (fun g hg => (t.own.lt g hg).2)
/-- a range more -/
theorem QSt.add {w : World} {v : Value} {k s h : Int} {v' : Value} {k' s' h' : Int} {ob : Nat} {X : List R3} {ao : Option Addr} {cap : Nat} {wa wb : World} (t : QSt w v k s h v' k' s' h' ob X ao cap wa) {ao' : Option Addr} {cap' : Nat}
    {x : R3} (own : wb.ownsRow (ob + 1) 23 3 (.slice ao' (X.length + 1) cap') (X.length + 1) (cells3 X ++ cells3 [x])) (grow : wa.grownBy wb (Value.slice ao X.length cap).ownBlock) :
    QSt w v k s h v' k' s' h' ob (X ++ [x]) ao' cap' (wb.setCell ⟨ob, 0, none⟩ (.slice ao' (X.length + 1) cap')) := by
  have B3 : Below (ob + 1) wa wb := (Below.refl _ _).grown grow (by have := t.r.size; omega) (fun g hg => (t.own.lt g hg).1)
  have e : (X ++ [x]).length = X.length + 1 := by simp
  have l := t.lt
  refine ⟨(t.below.trans (B3.mono (by omega))).setCell (by simp; omega) _, blk_else (blk_under t.a B3 (by omega)) (by omega) _, blk_else (blk_under t.b B3 (by omega)) (by omega) _, blk_else (blk_under t.z B3 (by omega)) (by omega) _, ?_, ?_, l⟩
  · rw [e]; exact blk_first (blk_under t.r B3 (by omega)) _
  · rw [e, cells3_append]
    exact ownsRow_setCell_below own (by simp) _
set_option maxRecDepth 100000 in
set_option maxHeartbeats 6400000 in
theorem rDinter_any (v : Value) (L : List R3) (k s h : Int) (v' : Value) (M : List R3) (k' s' h' : Int) (w : World) (hr : Rd w v L) (hL : Ok3 L) (hr' : Rd w v' M) (hM : Ok3 M) :
    Calls Try.prog 83 #[.agg #[v, .int .i64 k, .int .i64 s, .int .i64 h], .agg #[v', .int .i64 k', .int .i64 s', .int .i64 h']] w (DInterRet L k s h M k' s' h' w) := by
  obtain ⟨ao, cap, rfl, hc⟩ := hr
  obtain ⟨ao', cap', rfl, hc'⟩ := hr'
  have HR : Hid (Rd w (.slice ao L.length cap) L) := Lib.hid ⟨ao, cap, rfl, hc⟩
  have HR' : Hid (Rd w (.slice ao' M.length cap') M) := Lib.hid ⟨ao', cap', rfl, hc'⟩
  have HCC := Lib.hid hc
  have HCC' := Lib.hid hc'
  have HL := Lib.hid hL
  have HM := Lib.hid hM
  clear hc hL hc' hM
  obtain ⟨i0, hi, hz0, hz1, hz2⟩ := info_parts Try.infoRange
  go_enter Try.func83, Try.ntmps83
  go_wp2_with fail
  refine (rpair_any _ L _ _ _ _ M _ _ _ _ (((HR.out.keep (below_new _ _)).keep (below_new _ _)).keep (below_new _ _)) HL.out (((HR'.out.keep (below_new _ _)).keep (below_new _ _)).keep (below_new _ _)) HM.out).mono ?_
  rintro e w1 ⟨rfl, hb1⟩
  have R1 := res444 hb1
  have B1 := Lib.hid R1.1
  have D1 := Lib.hid R1.2.1
  have F1 := Lib.hid R1.2.2.1
  have Z1 := Lib.hid R1.2.2.2
  clear hb1 R1
  by_cases c : dboth L k s h M k' s' h' = 0
  · have c' : (dboth L k s h M k' s' h' != 0) = false := by simp [c]
    have C := Lib.hid c
    have ok := dboth_zero c
    have OK := Lib.hid ok
    have rk := Lib.hid (dchk_rank ok.1)
    have ln : M.length = L.length := ok.2.2.symm
    clear c ok
    obtain ⟨ba, oa, rfl, hba, ca⟩ := HCC.out.resolve_left (by have := rk.out; omega)
    obtain ⟨bb, ob, rfl, hbb, cb⟩ := HCC'.out.resolve_left (by have := rk.out; have := OK.out.2.2; omega)
    have CA := Lib.hid ca
    have CB := Lib.hid cb
    have LN := Lib.hid ln
    skip
    clear ca cb HCC HCC' ln
    have x1 := D1.out.c1
    have x2 := D1.out.c2
    have x3 := D1.out.c3
    go_upto_region 5 with fail
    have Q0 : Hid (QSt w (.slice (some ⟨ba, oa, none⟩) L.length cap) k s h (.slice (some ⟨bb, ob, none⟩) M.length cap') k' s' h' w1.heap.size [] none 0 (w1.alloc (.cells #[.slice none 0 0, .int .i64 k, .int .i64 s, .int .i64 h] 62))) := Lib.hid (by
      have nb := below_new w1 (.cells #[.slice none 0 0, .int .i64 k, .int .i64 s, .int .i64 h] 62)
      exact ⟨B1.out.trans (nb.mono B1.out.size), D1.out.keep nb, F1.out.keep nb, Z1.out.keep nb, Blk.new _ _ _ _ _ w1, World.ownsRow_nil _ _ _ _, Z1.out.size⟩)
    generalize w1.alloc (.cells #[.slice none 0 0, .int .i64 k, .int .i64 s, .int .i64 h] 62) = w2 at *
    generalize w1.heap.size = rb at *
    clear x1 x2 x3 c' D1 F1 Z1 B1
    go_wp2_with fail
    go_loopg [8, 9, 10] (L.length + 1) (fun gh v8 _ _ wr => ∃ (X : List R3) (ro : Option Addr) (rc : Nat), v8 = .int .i64 X.length ∧ (X.length ≤ L.length ∧ L.length - X.length < gh) ∧ Hid (∀ (i : Nat) (x : R3), X[i]? = some x → ∃ A B : R3, L[i]? = some A ∧ M[i]? = some B ∧ InterF A.1 A.2.1 A.2.2 B.1 B.2.1 B.2.2 x.1 x.2.1 x.2.2) ∧ Hid (QSt w (.slice (some ⟨ba, oa, none⟩) L.length cap) k s h (.slice (some ⟨bb, ob, none⟩) M.length cap') k' s' h' rb X ro rc wr))
    case atStart => exact ⟨[], none, 0, rfl, ⟨by simp, by simp⟩, Lib.hid (fun i x hx => by simp at hx), Q0⟩
    case round =>
      obtain ⟨X, ro, rc, rfl, ⟨j0, jg⟩, hz, E1⟩ := hrel
      have KG := Lib.hid jg
      clear jg
      have d0 := E1.out.a.c0
      by_cases hj : X.length < L.length
      · have jw : IntKind.i64.wrap ((X.length : Int) + 1) = (X.length : Int) + 1 := IntWalk.i64_in _ (by have := rk.out; omega)
        have n2 : (L.length : Int) ≤ 2 := by have := rk.out; omega
        have hj2 : X.length < M.length := by have := LN.out; omega
        have m2 : (M.length : Int) ≤ 2 := by have := rk.out; have := LN.out; omega
        obtain ⟨A, hA⟩ : ∃ A, L[X.length]? = some A := ⟨L[X.length], List.getElem?_eq_getElem hj⟩
        obtain ⟨B, hB⟩ : ∃ B, M[X.length]? = some B := ⟨M[X.length]'(by have := LN.out; omega), List.getElem?_eq_getElem _⟩
        have PA := Lib.hid (CA.out _ A hA)
        have PB := Lib.hid (CB.out _ B hB)
        have OA := Lib.hid ((dchk_zero OK.out.1).2.2 A (List.mem_of_getElem? hA)).1
        have OB := Lib.hid ((dchk_zero OK.out.2.1).2.2 B (List.mem_of_getElem? hB)).1
        have FA := Lib.hid hA
        have FB := Lib.hid hB
        clear hA hB
        obtain ⟨a1, a2, a3⟩ := A
        obtain ⟨b1, b2, b3⟩ := B
        go_upto_region 8 with fail
        refine wp_region_held_drew (S := (fun w' => QSt w (.slice (some ⟨ba, oa, none⟩) L.length cap) k s h (.slice (some ⟨bb, ob, none⟩) M.length cap') k' s' h' rb X ro rc w')) (by kernel_rfl) (E1.out.keep (to_drew (Below.refl _ _))) (fun hHeld => ?_)
        clear d0 E1
        obtain ⟨v0, hv0⟩ : ∃ v0, v0 = wr.drew := ⟨_, rfl⟩
        rw [← hv0] at hHeld ⊢
        clear hv0
        refine wpAnyH_take (i := 0) (oi := { dst := some 29, op := Op.fieldAddr 62 (Operand.tmp 2) 0, type := 0, pos := "ref.go:151", after := #[], guard := none }) (v := ?_) rfl (by kernel_rfl) (by kernel_rfl) (by kernel_rfl) (fun _ _ _ h => h) (Or.inl ⟨by rfl, ?_⟩) (by assumption) ?_
        rotate_left
        · (intro wq hSw; (try dsimp only at hSw); have a0 := hSw.a.c0; have b0 := hSw.b.c0; have p0 := (hSw.below.cell (p := ⟨ba, oa + X.length * 3, none⟩) hba).trans PA.out.1; have p1 := (hSw.below.cell (p := ⟨ba, oa + X.length * 3 + 1, none⟩) hba).trans PA.out.2.1; have p2 := (hSw.below.cell (p := ⟨ba, oa + X.length * 3 + 2, none⟩) hba).trans PA.out.2.2; have q0 := (hSw.below.cell (p := ⟨bb, ob + X.length * 3, none⟩) hbb).trans PB.out.1; have q1 := (hSw.below.cell (p := ⟨bb, ob + X.length * 3 + 1, none⟩) hbb).trans PB.out.2.1; have q2 := (hSw.below.cell (p := ⟨bb, ob + X.length * 3 + 2, none⟩) hbb).trans PB.out.2.2; clear hSw; go_simp; first | done | with_reducible rfl)
        try simp only [Act.put, List.setIfInBounds_toArray, List.set_cons_zero, List.set_cons_succ]
        refine wpAnyH_take (i := 1) (oi := { dst := some 30, op := Op.load 40 (Operand.tmp 29), type := 40, pos := "ref.go:151", after := #[{ on := 0, ground := Ground.data }], guard := none }) (v := ?_) rfl (by kernel_rfl) (by kernel_rfl) (by kernel_rfl) (fun _ _ _ h => h) (Or.inl ⟨by rfl, ?_⟩) (by assumption) ?_
        rotate_left
        · (intro wq hSw; (try dsimp only at hSw); have a0 := hSw.a.c0; have b0 := hSw.b.c0; have p0 := (hSw.below.cell (p := ⟨ba, oa + X.length * 3, none⟩) hba).trans PA.out.1; have p1 := (hSw.below.cell (p := ⟨ba, oa + X.length * 3 + 1, none⟩) hba).trans PA.out.2.1; have p2 := (hSw.below.cell (p := ⟨ba, oa + X.length * 3 + 2, none⟩) hba).trans PA.out.2.2; have q0 := (hSw.below.cell (p := ⟨bb, ob + X.length * 3, none⟩) hbb).trans PB.out.1; have q1 := (hSw.below.cell (p := ⟨bb, ob + X.length * 3 + 1, none⟩) hbb).trans PB.out.2.1; have q2 := (hSw.below.cell (p := ⟨bb, ob + X.length * 3 + 2, none⟩) hbb).trans PB.out.2.2; clear hSw; go_simp; first | done | with_reducible rfl)
        try simp only [Act.put, List.setIfInBounds_toArray, List.set_cons_zero, List.set_cons_succ]
        refine wpAnyH_take (i := 2) (oi := { dst := some 31, op := Op.move (Operand.tmp 8), type := 3, pos := "ref.go:151", after := #[], guard := none }) (v := ?_) rfl (by kernel_rfl) (by kernel_rfl) (by kernel_rfl) (fun _ _ _ h => h) (Or.inl ⟨by rfl, ?_⟩) (by assumption) ?_
        rotate_left
        · (intro wq hSw; (try dsimp only at hSw); have a0 := hSw.a.c0; have b0 := hSw.b.c0; have p0 := (hSw.below.cell (p := ⟨ba, oa + X.length * 3, none⟩) hba).trans PA.out.1; have p1 := (hSw.below.cell (p := ⟨ba, oa + X.length * 3 + 1, none⟩) hba).trans PA.out.2.1; have p2 := (hSw.below.cell (p := ⟨ba, oa + X.length * 3 + 2, none⟩) hba).trans PA.out.2.2; have q0 := (hSw.below.cell (p := ⟨bb, ob + X.length * 3, none⟩) hbb).trans PB.out.1; have q1 := (hSw.below.cell (p := ⟨bb, ob + X.length * 3 + 1, none⟩) hbb).trans PB.out.2.1; have q2 := (hSw.below.cell (p := ⟨bb, ob + X.length * 3 + 2, none⟩) hbb).trans PB.out.2.2; clear hSw; go_simp; first | done | with_reducible rfl)
        try simp only [Act.put, List.setIfInBounds_toArray, List.set_cons_zero, List.set_cons_succ]
        refine wpAnyH_take (i := 3) (oi := { dst := some 32, op := Op.indexAddr 40 (Operand.tmp 30) (Operand.tmp 31), type := 0, pos := "ref.go:151", after := #[{ on := 1, ground := Ground.data }, { on := 2, ground := Ground.data }], guard := none }) (v := ?_) rfl (by kernel_rfl) (by kernel_rfl) (by kernel_rfl) (fun _ _ _ h => h) (Or.inl ⟨by rfl, ?_⟩) (by assumption) ?_
        rotate_left
        · (intro wq hSw; (try dsimp only at hSw); have a0 := hSw.a.c0; have b0 := hSw.b.c0; have p0 := (hSw.below.cell (p := ⟨ba, oa + X.length * 3, none⟩) hba).trans PA.out.1; have p1 := (hSw.below.cell (p := ⟨ba, oa + X.length * 3 + 1, none⟩) hba).trans PA.out.2.1; have p2 := (hSw.below.cell (p := ⟨ba, oa + X.length * 3 + 2, none⟩) hba).trans PA.out.2.2; have q0 := (hSw.below.cell (p := ⟨bb, ob + X.length * 3, none⟩) hbb).trans PB.out.1; have q1 := (hSw.below.cell (p := ⟨bb, ob + X.length * 3 + 1, none⟩) hbb).trans PB.out.2.1; have q2 := (hSw.below.cell (p := ⟨bb, ob + X.length * 3 + 2, none⟩) hbb).trans PB.out.2.2; clear hSw; go_simp; first | done | with_reducible rfl)
        try simp only [Act.put, List.setIfInBounds_toArray, List.set_cons_zero, List.set_cons_succ]
        refine wpAnyH_take (i := 4) (oi := { dst := some 33, op := Op.load 23 (Operand.tmp 32), type := 23, pos := "ref.go:151", after := #[{ on := 3, ground := Ground.data }], guard := none }) (v := ?_) rfl (by kernel_rfl) (by kernel_rfl) (by kernel_rfl) (fun _ _ _ h => h) (Or.inl ⟨by rfl, ?_⟩) (by assumption) ?_
        rotate_left
        · (intro wq hSw; (try dsimp only at hSw); have a0 := hSw.a.c0; have b0 := hSw.b.c0; have p0 := (hSw.below.cell (p := ⟨ba, oa + X.length * 3, none⟩) hba).trans PA.out.1; have p1 := (hSw.below.cell (p := ⟨ba, oa + X.length * 3 + 1, none⟩) hba).trans PA.out.2.1; have p2 := (hSw.below.cell (p := ⟨ba, oa + X.length * 3 + 2, none⟩) hba).trans PA.out.2.2; have q0 := (hSw.below.cell (p := ⟨bb, ob + X.length * 3, none⟩) hbb).trans PB.out.1; have q1 := (hSw.below.cell (p := ⟨bb, ob + X.length * 3 + 1, none⟩) hbb).trans PB.out.2.1; have q2 := (hSw.below.cell (p := ⟨bb, ob + X.length * 3 + 2, none⟩) hbb).trans PB.out.2.2; clear hSw; go_simp; first | done | with_reducible rfl)
        try simp only [Act.put, List.setIfInBounds_toArray, List.set_cons_zero, List.set_cons_succ]
        refine wpAnyH_take (i := 5) (oi := { dst := some 34, op := Op.fieldAddr 62 (Operand.tmp 3) 0, type := 0, pos := "ref.go:151", after := #[], guard := none }) (v := ?_) rfl (by kernel_rfl) (by kernel_rfl) (by kernel_rfl) (fun _ _ _ h => h) (Or.inl ⟨by rfl, ?_⟩) (by assumption) ?_
        rotate_left
        · (intro wq hSw; (try dsimp only at hSw); have a0 := hSw.a.c0; have b0 := hSw.b.c0; have p0 := (hSw.below.cell (p := ⟨ba, oa + X.length * 3, none⟩) hba).trans PA.out.1; have p1 := (hSw.below.cell (p := ⟨ba, oa + X.length * 3 + 1, none⟩) hba).trans PA.out.2.1; have p2 := (hSw.below.cell (p := ⟨ba, oa + X.length * 3 + 2, none⟩) hba).trans PA.out.2.2; have q0 := (hSw.below.cell (p := ⟨bb, ob + X.length * 3, none⟩) hbb).trans PB.out.1; have q1 := (hSw.below.cell (p := ⟨bb, ob + X.length * 3 + 1, none⟩) hbb).trans PB.out.2.1; have q2 := (hSw.below.cell (p := ⟨bb, ob + X.length * 3 + 2, none⟩) hbb).trans PB.out.2.2; clear hSw; go_simp; first | done | with_reducible rfl)
        try simp only [Act.put, List.setIfInBounds_toArray, List.set_cons_zero, List.set_cons_succ]
        refine wpAnyH_take (i := 6) (oi := { dst := some 35, op := Op.load 40 (Operand.tmp 34), type := 40, pos := "ref.go:151", after := #[{ on := 5, ground := Ground.data }], guard := none }) (v := ?_) rfl (by kernel_rfl) (by kernel_rfl) (by kernel_rfl) (fun _ _ _ h => h) (Or.inl ⟨by rfl, ?_⟩) (by assumption) ?_
        rotate_left
        · (intro wq hSw; (try dsimp only at hSw); have a0 := hSw.a.c0; have b0 := hSw.b.c0; have p0 := (hSw.below.cell (p := ⟨ba, oa + X.length * 3, none⟩) hba).trans PA.out.1; have p1 := (hSw.below.cell (p := ⟨ba, oa + X.length * 3 + 1, none⟩) hba).trans PA.out.2.1; have p2 := (hSw.below.cell (p := ⟨ba, oa + X.length * 3 + 2, none⟩) hba).trans PA.out.2.2; have q0 := (hSw.below.cell (p := ⟨bb, ob + X.length * 3, none⟩) hbb).trans PB.out.1; have q1 := (hSw.below.cell (p := ⟨bb, ob + X.length * 3 + 1, none⟩) hbb).trans PB.out.2.1; have q2 := (hSw.below.cell (p := ⟨bb, ob + X.length * 3 + 2, none⟩) hbb).trans PB.out.2.2; clear hSw; go_simp; first | done | with_reducible rfl)
        try simp only [Act.put, List.setIfInBounds_toArray, List.set_cons_zero, List.set_cons_succ]
        refine wpAnyH_take (i := 7) (oi := { dst := some 36, op := Op.move (Operand.tmp 8), type := 3, pos := "ref.go:151", after := #[], guard := none }) (v := ?_) rfl (by kernel_rfl) (by kernel_rfl) (by kernel_rfl) (fun _ _ _ h => h) (Or.inl ⟨by rfl, ?_⟩) (by assumption) ?_
        rotate_left
        · (intro wq hSw; (try dsimp only at hSw); have a0 := hSw.a.c0; have b0 := hSw.b.c0; have p0 := (hSw.below.cell (p := ⟨ba, oa + X.length * 3, none⟩) hba).trans PA.out.1; have p1 := (hSw.below.cell (p := ⟨ba, oa + X.length * 3 + 1, none⟩) hba).trans PA.out.2.1; have p2 := (hSw.below.cell (p := ⟨ba, oa + X.length * 3 + 2, none⟩) hba).trans PA.out.2.2; have q0 := (hSw.below.cell (p := ⟨bb, ob + X.length * 3, none⟩) hbb).trans PB.out.1; have q1 := (hSw.below.cell (p := ⟨bb, ob + X.length * 3 + 1, none⟩) hbb).trans PB.out.2.1; have q2 := (hSw.below.cell (p := ⟨bb, ob + X.length * 3 + 2, none⟩) hbb).trans PB.out.2.2; clear hSw; go_simp; first | done | with_reducible rfl)
        try simp only [Act.put, List.setIfInBounds_toArray, List.set_cons_zero, List.set_cons_succ]
        refine wpAnyH_take (i := 8) (oi := { dst := some 37, op := Op.indexAddr 40 (Operand.tmp 35) (Operand.tmp 36), type := 0, pos := "ref.go:151", after := #[{ on := 6, ground := Ground.data }, { on := 7, ground := Ground.data }], guard := none }) (v := ?_) rfl (by kernel_rfl) (by kernel_rfl) (by kernel_rfl) (fun _ _ _ h => h) (Or.inl ⟨by rfl, ?_⟩) (by assumption) ?_
        rotate_left
        · (intro wq hSw; (try dsimp only at hSw); have a0 := hSw.a.c0; have b0 := hSw.b.c0; have p0 := (hSw.below.cell (p := ⟨ba, oa + X.length * 3, none⟩) hba).trans PA.out.1; have p1 := (hSw.below.cell (p := ⟨ba, oa + X.length * 3 + 1, none⟩) hba).trans PA.out.2.1; have p2 := (hSw.below.cell (p := ⟨ba, oa + X.length * 3 + 2, none⟩) hba).trans PA.out.2.2; have q0 := (hSw.below.cell (p := ⟨bb, ob + X.length * 3, none⟩) hbb).trans PB.out.1; have q1 := (hSw.below.cell (p := ⟨bb, ob + X.length * 3 + 1, none⟩) hbb).trans PB.out.2.1; have q2 := (hSw.below.cell (p := ⟨bb, ob + X.length * 3 + 2, none⟩) hbb).trans PB.out.2.2; clear hSw; go_simp; first | done | with_reducible rfl)
        try simp only [Act.put, List.setIfInBounds_toArray, List.set_cons_zero, List.set_cons_succ]
        refine wpAnyH_take (i := 9) (oi := { dst := some 38, op := Op.load 23 (Operand.tmp 37), type := 23, pos := "ref.go:151", after := #[{ on := 8, ground := Ground.data }], guard := none }) (v := ?_) rfl (by kernel_rfl) (by kernel_rfl) (by kernel_rfl) (fun _ _ _ h => h) (Or.inl ⟨by rfl, ?_⟩) (by assumption) ?_
        rotate_left
        · (intro wq hSw; (try dsimp only at hSw); have a0 := hSw.a.c0; have b0 := hSw.b.c0; have p0 := (hSw.below.cell (p := ⟨ba, oa + X.length * 3, none⟩) hba).trans PA.out.1; have p1 := (hSw.below.cell (p := ⟨ba, oa + X.length * 3 + 1, none⟩) hba).trans PA.out.2.1; have p2 := (hSw.below.cell (p := ⟨ba, oa + X.length * 3 + 2, none⟩) hba).trans PA.out.2.2; have q0 := (hSw.below.cell (p := ⟨bb, ob + X.length * 3, none⟩) hbb).trans PB.out.1; have q1 := (hSw.below.cell (p := ⟨bb, ob + X.length * 3 + 1, none⟩) hbb).trans PB.out.2.1; have q2 := (hSw.below.cell (p := ⟨bb, ob + X.length * 3 + 2, none⟩) hbb).trans PB.out.2.2; clear hSw; go_simp; first | done | with_reducible rfl)
        try simp only [Act.put, List.setIfInBounds_toArray, List.set_cons_zero, List.set_cons_succ]
        refine wpAnyH_ready (rs := [10, 14]) (by kernel_rfl) (by simp) ?_
        refine AllReadyH.cons (o := { dst := some 39, op := Op.call { callee := Callee.value (Operand.func 44), args := #[Operand.tmp 33, Operand.tmp 38], argTypes := #[23, 23] }, type := 25, pos := "ref.go:151", after := #[{ on := 4, ground := Ground.data }, { on := 9, ground := Ground.data }], guard := none }) rfl (fun K hK => ?_) ?_
        · go_simp
          refine (refIntersect_dir _ _ _ _ _ _ _ OA OB).mono ?_
          rintro e v1 ⟨y0, y1, y2, hF, rfl, hb⟩
          have HF := Lib.hid hF
          clear hF
          have hb : Below v0.heap.size v0 v1 := ⟨hb.os, hb.tape, hb.output, hb.size, hb.block⟩
          have hS := hHeld.keep hb
          go_wp2_with fail
          refine hK.out _ _ hS (fun hHeld => ?_)
          clear hK K hHeld
          clear hb
          have hHeld := hS
          clear hS
          try simp only [Act.put, List.setIfInBounds_toArray, List.set_cons_zero, List.set_cons_succ]
          refine wpAnyH_take (i := 11) (oi := { dst := some 28, op := Op.move (Operand.tmp 39), type := 25, pos := "ref.go:151", after := #[{ on := 10, ground := Ground.data }], guard := none }) (v := ?_) rfl (by kernel_rfl) (by kernel_rfl) (by kernel_rfl) (fun _ _ _ h => h) (Or.inl ⟨by rfl, ?_⟩) (by assumption) ?_
          rotate_left
          · (intro wq hSw; (try dsimp only at hSw); have a0 := hSw.a.c0; have b0 := hSw.b.c0; have p0 := (hSw.below.cell (p := ⟨ba, oa + X.length * 3, none⟩) hba).trans PA.out.1; have p1 := (hSw.below.cell (p := ⟨ba, oa + X.length * 3 + 1, none⟩) hba).trans PA.out.2.1; have p2 := (hSw.below.cell (p := ⟨ba, oa + X.length * 3 + 2, none⟩) hba).trans PA.out.2.2; have q0 := (hSw.below.cell (p := ⟨bb, ob + X.length * 3, none⟩) hbb).trans PB.out.1; have q1 := (hSw.below.cell (p := ⟨bb, ob + X.length * 3 + 1, none⟩) hbb).trans PB.out.2.1; have q2 := (hSw.below.cell (p := ⟨bb, ob + X.length * 3 + 2, none⟩) hbb).trans PB.out.2.2; clear hSw; go_simp; first | done | with_reducible rfl)
          try simp only [Act.put, List.setIfInBounds_toArray, List.set_cons_zero, List.set_cons_succ]
          refine wpAnyH_take (i := 12) (oi := { dst := some 40, op := Op.extract (Operand.tmp 28) 0, type := 23, pos := "ref.go:151", after := #[{ on := 11, ground := Ground.data }], guard := none }) (v := ?_) rfl (by kernel_rfl) (by kernel_rfl) (by kernel_rfl) (fun _ _ _ h => h) (Or.inl ⟨by rfl, ?_⟩) (by assumption) ?_
          rotate_left
          · (intro wq hSw; (try dsimp only at hSw); have a0 := hSw.a.c0; have b0 := hSw.b.c0; have p0 := (hSw.below.cell (p := ⟨ba, oa + X.length * 3, none⟩) hba).trans PA.out.1; have p1 := (hSw.below.cell (p := ⟨ba, oa + X.length * 3 + 1, none⟩) hba).trans PA.out.2.1; have p2 := (hSw.below.cell (p := ⟨ba, oa + X.length * 3 + 2, none⟩) hba).trans PA.out.2.2; have q0 := (hSw.below.cell (p := ⟨bb, ob + X.length * 3, none⟩) hbb).trans PB.out.1; have q1 := (hSw.below.cell (p := ⟨bb, ob + X.length * 3 + 1, none⟩) hbb).trans PB.out.2.1; have q2 := (hSw.below.cell (p := ⟨bb, ob + X.length * 3 + 2, none⟩) hbb).trans PB.out.2.2; clear hSw; go_simp; first | done | with_reducible rfl)
          try simp only [Act.put, List.setIfInBounds_toArray, List.set_cons_zero, List.set_cons_succ]
          refine wpAnyH_take (i := 13) (oi := { dst := some 41, op := Op.extract (Operand.tmp 28) 1, type := 24, pos := "ref.go:151", after := #[{ on := 11, ground := Ground.data }, { on := 15, ground := Ground.gcOnly Departure.lateStores }], guard := none }) (v := ?_) rfl (by kernel_rfl) (by kernel_rfl) (by kernel_rfl) (fun _ _ _ h => h) (Or.inl ⟨by rfl, ?_⟩) (by assumption) ?_
          rotate_left
          · (intro wq hSw; (try dsimp only at hSw); have a0 := hSw.a.c0; have b0 := hSw.b.c0; have p0 := (hSw.below.cell (p := ⟨ba, oa + X.length * 3, none⟩) hba).trans PA.out.1; have p1 := (hSw.below.cell (p := ⟨ba, oa + X.length * 3 + 1, none⟩) hba).trans PA.out.2.1; have p2 := (hSw.below.cell (p := ⟨ba, oa + X.length * 3 + 2, none⟩) hba).trans PA.out.2.2; have q0 := (hSw.below.cell (p := ⟨bb, ob + X.length * 3, none⟩) hbb).trans PB.out.1; have q1 := (hSw.below.cell (p := ⟨bb, ob + X.length * 3 + 1, none⟩) hbb).trans PB.out.2.1; have q2 := (hSw.below.cell (p := ⟨bb, ob + X.length * 3 + 2, none⟩) hbb).trans PB.out.2.2; clear hSw; go_simp; first | done | with_reducible rfl)
          try simp only [Act.put, List.setIfInBounds_toArray, List.set_cons_zero, List.set_cons_succ]
          refine wpAnyH_ready (rs := [14]) (by kernel_rfl) (by simp) ?_
          refine AllReadyH.cons (o := { dst := some 9, op := Op.alloc 23, type := 0, pos := "ref.go:151", after := #[], guard := none }) rfl (fun K hK => ?_) AllReadyH.nil
          go_simp
          have hb := below_new v1 (.cells #[.int .i64 0, .int .i64 0, .int .i64 0] 23)
          have BC := B3.new (.int .i64 0) (.int .i64 0) (.int .i64 0) 23 v1
          have RL := Lib.hid (fun g hg => (hHeld.own.lt g hg).2)
          have GO := Lib.hid hHeld.r.size
          have hS := hHeld.keep hb
          refine hK.out _ _ hS (fun hHeld => ?_)
          clear hK K hHeld
          clear hb
          generalize v1.alloc (.cells #[.int .i64 0, .int .i64 0, .int .i64 0] 23) = v2 at *
          have hHeld := hS
          clear hS
          try simp only [Act.put, List.setIfInBounds_toArray, List.set_cons_zero, List.set_cons_succ]
          refine wpAnyH_ready (rs := [15]) (by kernel_rfl) (by simp) ?_
          refine AllReadyH.cons (o := { dst := none, op := Op.store 23 (Operand.tmp 9) (Operand.tmp 40), type := 0, pos := "ref.go:151", after := #[{ on := 14, ground := Ground.data }, { on := 12, ground := Ground.data }, { on := 10, ground := Ground.chain }, { on := 0, ground := Ground.phase }, { on := 1, ground := Ground.phase }, { on := 2, ground := Ground.phase }, { on := 3, ground := Ground.phase }, { on := 4, ground := Ground.phase }, { on := 5, ground := Ground.phase }, { on := 6, ground := Ground.phase }, { on := 7, ground := Ground.phase }, { on := 8, ground := Ground.phase }, { on := 9, ground := Ground.phase }, { on := 10, ground := Ground.phase }, { on := 11, ground := Ground.phase }, { on := 12, ground := Ground.phase }, { on := 13, ground := Ground.textOnly Departure.lateStores }, { on := 14, ground := Ground.phase }], guard := none }) rfl (fun K hK => ?_) AllReadyH.nil
          go_simp
          have c0 := BC.c0
          have c1 := BC.c1
          have c2 := BC.c2
          have f0 := BC.f0
          have f1 := BC.f1
          have f2 := BC.f2
          go_simp
          have hS := hHeld.under (set3s_below (Nat.le_refl (v1.heap.size)) (.int .i64 y0) (.int .i64 y1) (.int .i64 y2)) GO.out RL.out
          have BC := BC.set (.int .i64 y0) (.int .i64 y1) (.int .i64 y2)
          refine hK.out _ _ hS (fun hHeld => ?_)
          clear hK K hHeld
          clear c0 c1 c2 f0 f1 f2
          change wpAnyH _ _ _ _ _ _ _ _ (set3 v2 (v1.heap.size) (.int .i64 y0) (.int .i64 y1) (.int .i64 y2))
          generalize set3 v2 (v1.heap.size) (.int .i64 y0) (.int .i64 y1) (.int .i64 y2) = v3 at *
          have hHeld := hS
          clear hS
          try simp only [Act.put, List.setIfInBounds_toArray, List.set_cons_zero, List.set_cons_succ]
          refine wpAnyH_take (i := 16) (oi := { dst := some 10, op := Op.assign (Operand.tmp 41), type := 24, pos := "ref.go:151", after := #[{ on := 13, ground := Ground.data }, { on := 15, ground := Ground.chain }, { on := 0, ground := Ground.phase }, { on := 1, ground := Ground.phase }, { on := 2, ground := Ground.phase }, { on := 3, ground := Ground.phase }, { on := 4, ground := Ground.phase }, { on := 5, ground := Ground.phase }, { on := 6, ground := Ground.phase }, { on := 7, ground := Ground.phase }, { on := 8, ground := Ground.phase }, { on := 9, ground := Ground.phase }, { on := 10, ground := Ground.phase }, { on := 11, ground := Ground.phase }, { on := 12, ground := Ground.phase }, { on := 13, ground := Ground.phase }, { on := 14, ground := Ground.phase }, { on := 15, ground := Ground.phase }], guard := none }) (v := ?_) rfl (by kernel_rfl) (by kernel_rfl) (by kernel_rfl) (fun _ _ _ h => h) (Or.inl ⟨by rfl, ?_⟩) (by assumption) ?_
          rotate_left
          · (intro wq hSw; (try dsimp only at hSw); have a0 := hSw.a.c0; have b0 := hSw.b.c0; have p0 := (hSw.below.cell (p := ⟨ba, oa + X.length * 3, none⟩) hba).trans PA.out.1; have p1 := (hSw.below.cell (p := ⟨ba, oa + X.length * 3 + 1, none⟩) hba).trans PA.out.2.1; have p2 := (hSw.below.cell (p := ⟨ba, oa + X.length * 3 + 2, none⟩) hba).trans PA.out.2.2; have q0 := (hSw.below.cell (p := ⟨bb, ob + X.length * 3, none⟩) hbb).trans PB.out.1; have q1 := (hSw.below.cell (p := ⟨bb, ob + X.length * 3 + 1, none⟩) hbb).trans PB.out.2.1; have q2 := (hSw.below.cell (p := ⟨bb, ob + X.length * 3 + 2, none⟩) hbb).trans PB.out.2.2; clear hSw; go_simp; first | done | with_reducible rfl)
          try simp only [Act.put, List.setIfInBounds_toArray, List.set_cons_zero, List.set_cons_succ]
          refine wpAnyH_done (by kernel_rfl) ?_ _
          have E3 := Lib.hid hHeld
          have X3 := Lib.hid BC
          clear hHeld BC
          have r0 := E3.out.r.c0
          have r1 := E3.out.r.c1
          have r2 := E3.out.r.c2
          have r3 := E3.out.r.c3
          have g0 := E3.out.r.f0
          have x0' := X3.out.c0
          have x1' := X3.out.c1
          have x2' := X3.out.c2
          have sz := E3.out.r.size
          have zx := X3.out.size
          go_wp2_with (first | (at_builtin; refine wpList_append_own _ rfl (.tmp 43) (.tmp 45) 40 rfl (rb + 1) 23 i0 (.agg #[.int .i64 0, .int .i64 0, .int .i64 0]) 3 24 Try.underlying40 hi hz0 hz1 hz2 rfl (by decide) _ X.length (cells3 X) rfl (E3.out.own.alloc _) ⟨v3.heap.size, 0, none⟩ 1 1 (cells3 [(y0, y1, y2)]) rfl rfl ?c1 ?c2 ?c3 ?c4 ?c5 ?_))
          case c1 => exact World.news_of_block (cs := #[.int .i64 y0, .int .i64 y1, .int .i64 y2]) (t := 23) (fr := (0, 0)) (heap_alloc_new v3 _)
          case c2 => exact cells3_one _
          case c3 => unfold maxLen; omega
          case c4 => omega
          case c5 => simp; omega
          intro u' w4 own4 grow4 _
          obtain ⟨g', cap4, rfl⟩ := ownsRow_succ own4
          have E4 := Lib.hid ((E3.out.keep (below_new v3 (.cells #[.int .i64 y0, .int .i64 y1, .int .i64 y2] 23))).add own4 grow4)
          have B4 : Below (rb + 1) (v3.alloc (.cells #[.int .i64 y0, .int .i64 y1, .int .i64 y2] 23)) w4 := (Below.refl _ _).grown grow4 (by simp; omega) (fun g hg => (((E3.out.own.alloc (.cells #[.int .i64 y0, .int .i64 y1, .int .i64 y2] 23)).lt g hg)).1)
          have R4 := Lib.hid (blk_under (E3.out.r.keep (below_new v3 (.cells #[.int .i64 y0, .int .i64 y1, .int .i64 y2] 23))) B4 (by omega))
          clear own4 grow4 B4 E3 X3 r0 r1 r2 r3 g0 x0' x1' x2' sz zx
          have r0 := R4.out.c0
          have g0 := R4.out.f0
          go_wp2_with fail
          go_roundg (L.length - X.length)
          case measure => exact KG.out
          case rel => exact ⟨X ++ [(y0, y1, y2)], _, _, by simp, ⟨by simp; omega, by simp; omega⟩, Lib.hid (fun i x hx => by
              by_cases c : i < X.length
              · rw [List.getElem?_append_left c] at hx; exact hz.out i x hx
              · rw [List.getElem?_append_right (by omega)] at hx
                have e : i = X.length := by
                  have := (List.getElem?_eq_some_iff.1 hx).1
                  simp at this; omega
                subst e
                simp at hx; subst hx; exact ⟨_, _, FA.out, FB.out, HF.out⟩), E4⟩
        refine AllReadyH.cons (o := { dst := some 9, op := Op.alloc 23, type := 0, pos := "ref.go:151", after := #[], guard := none }) rfl (fun K hK => ?_) ?_
        · go_simp
          have hb := below_new v0 (.cells #[.int .i64 0, .int .i64 0, .int .i64 0] 23)
          have BC := B3.new (.int .i64 0) (.int .i64 0) (.int .i64 0) 23 v0
          have RL := Lib.hid (fun g hg => (hHeld.own.lt g hg).2)
          have GO := Lib.hid hHeld.r.size
          have hS := hHeld.keep hb
          refine hK.out _ _ hS (fun hHeld => ?_)
          clear hK K hHeld
          clear hb
          generalize v0.alloc (.cells #[.int .i64 0, .int .i64 0, .int .i64 0] 23) = v4 at *
          have hHeld := hS
          clear hS
          try simp only [Act.put, List.setIfInBounds_toArray, List.set_cons_zero, List.set_cons_succ]
          refine wpAnyH_ready (rs := [10]) (by kernel_rfl) (by simp) ?_
          refine AllReadyH.cons (o := { dst := some 39, op := Op.call { callee := Callee.value (Operand.func 44), args := #[Operand.tmp 33, Operand.tmp 38], argTypes := #[23, 23] }, type := 25, pos := "ref.go:151", after := #[{ on := 4, ground := Ground.data }, { on := 9, ground := Ground.data }], guard := none }) rfl (fun K hK => ?_) AllReadyH.nil
          go_simp
          refine (refIntersect_dir _ _ _ _ _ _ _ OA OB).mono ?_
          rintro e v5 ⟨y0, y1, y2, hF, rfl, hb⟩
          have HF := Lib.hid hF
          clear hF
          have hb : Below v4.heap.size v4 v5 := ⟨hb.os, hb.tape, hb.output, hb.size, hb.block⟩
          have hS := hHeld.keep hb
          have BC := BC.keep hb
          go_wp2_with fail
          refine hK.out _ _ hS (fun hHeld => ?_)
          clear hK K hHeld
          clear hb
          have hHeld := hS
          clear hS
          try simp only [Act.put, List.setIfInBounds_toArray, List.set_cons_zero, List.set_cons_succ]
          refine wpAnyH_take (i := 11) (oi := { dst := some 28, op := Op.move (Operand.tmp 39), type := 25, pos := "ref.go:151", after := #[{ on := 10, ground := Ground.data }], guard := none }) (v := ?_) rfl (by kernel_rfl) (by kernel_rfl) (by kernel_rfl) (fun _ _ _ h => h) (Or.inl ⟨by rfl, ?_⟩) (by assumption) ?_
          rotate_left
          · (intro wq hSw; (try dsimp only at hSw); have a0 := hSw.a.c0; have b0 := hSw.b.c0; have p0 := (hSw.below.cell (p := ⟨ba, oa + X.length * 3, none⟩) hba).trans PA.out.1; have p1 := (hSw.below.cell (p := ⟨ba, oa + X.length * 3 + 1, none⟩) hba).trans PA.out.2.1; have p2 := (hSw.below.cell (p := ⟨ba, oa + X.length * 3 + 2, none⟩) hba).trans PA.out.2.2; have q0 := (hSw.below.cell (p := ⟨bb, ob + X.length * 3, none⟩) hbb).trans PB.out.1; have q1 := (hSw.below.cell (p := ⟨bb, ob + X.length * 3 + 1, none⟩) hbb).trans PB.out.2.1; have q2 := (hSw.below.cell (p := ⟨bb, ob + X.length * 3 + 2, none⟩) hbb).trans PB.out.2.2; clear hSw; go_simp; first | done | with_reducible rfl)
          try simp only [Act.put, List.setIfInBounds_toArray, List.set_cons_zero, List.set_cons_succ]
          refine wpAnyH_take (i := 12) (oi := { dst := some 40, op := Op.extract (Operand.tmp 28) 0, type := 23, pos := "ref.go:151", after := #[{ on := 11, ground := Ground.data }], guard := none }) (v := ?_) rfl (by kernel_rfl) (by kernel_rfl) (by kernel_rfl) (fun _ _ _ h => h) (Or.inl ⟨by rfl, ?_⟩) (by assumption) ?_
          rotate_left
          · (intro wq hSw; (try dsimp only at hSw); have a0 := hSw.a.c0; have b0 := hSw.b.c0; have p0 := (hSw.below.cell (p := ⟨ba, oa + X.length * 3, none⟩) hba).trans PA.out.1; have p1 := (hSw.below.cell (p := ⟨ba, oa + X.length * 3 + 1, none⟩) hba).trans PA.out.2.1; have p2 := (hSw.below.cell (p := ⟨ba, oa + X.length * 3 + 2, none⟩) hba).trans PA.out.2.2; have q0 := (hSw.below.cell (p := ⟨bb, ob + X.length * 3, none⟩) hbb).trans PB.out.1; have q1 := (hSw.below.cell (p := ⟨bb, ob + X.length * 3 + 1, none⟩) hbb).trans PB.out.2.1; have q2 := (hSw.below.cell (p := ⟨bb, ob + X.length * 3 + 2, none⟩) hbb).trans PB.out.2.2; clear hSw; go_simp; first | done | with_reducible rfl)
          try simp only [Act.put, List.setIfInBounds_toArray, List.set_cons_zero, List.set_cons_succ]
          refine wpAnyH_take (i := 13) (oi := { dst := some 41, op := Op.extract (Operand.tmp 28) 1, type := 24, pos := "ref.go:151", after := #[{ on := 11, ground := Ground.data }, { on := 15, ground := Ground.gcOnly Departure.lateStores }], guard := none }) (v := ?_) rfl (by kernel_rfl) (by kernel_rfl) (by kernel_rfl) (fun _ _ _ h => h) (Or.inl ⟨by rfl, ?_⟩) (by assumption) ?_
          rotate_left
          · (intro wq hSw; (try dsimp only at hSw); have a0 := hSw.a.c0; have b0 := hSw.b.c0; have p0 := (hSw.below.cell (p := ⟨ba, oa + X.length * 3, none⟩) hba).trans PA.out.1; have p1 := (hSw.below.cell (p := ⟨ba, oa + X.length * 3 + 1, none⟩) hba).trans PA.out.2.1; have p2 := (hSw.below.cell (p := ⟨ba, oa + X.length * 3 + 2, none⟩) hba).trans PA.out.2.2; have q0 := (hSw.below.cell (p := ⟨bb, ob + X.length * 3, none⟩) hbb).trans PB.out.1; have q1 := (hSw.below.cell (p := ⟨bb, ob + X.length * 3 + 1, none⟩) hbb).trans PB.out.2.1; have q2 := (hSw.below.cell (p := ⟨bb, ob + X.length * 3 + 2, none⟩) hbb).trans PB.out.2.2; clear hSw; go_simp; first | done | with_reducible rfl)
          try simp only [Act.put, List.setIfInBounds_toArray, List.set_cons_zero, List.set_cons_succ]
          refine wpAnyH_ready (rs := [15]) (by kernel_rfl) (by simp) ?_
          refine AllReadyH.cons (o := { dst := none, op := Op.store 23 (Operand.tmp 9) (Operand.tmp 40), type := 0, pos := "ref.go:151", after := #[{ on := 14, ground := Ground.data }, { on := 12, ground := Ground.data }, { on := 10, ground := Ground.chain }, { on := 0, ground := Ground.phase }, { on := 1, ground := Ground.phase }, { on := 2, ground := Ground.phase }, { on := 3, ground := Ground.phase }, { on := 4, ground := Ground.phase }, { on := 5, ground := Ground.phase }, { on := 6, ground := Ground.phase }, { on := 7, ground := Ground.phase }, { on := 8, ground := Ground.phase }, { on := 9, ground := Ground.phase }, { on := 10, ground := Ground.phase }, { on := 11, ground := Ground.phase }, { on := 12, ground := Ground.phase }, { on := 13, ground := Ground.textOnly Departure.lateStores }, { on := 14, ground := Ground.phase }], guard := none }) rfl (fun K hK => ?_) AllReadyH.nil
          go_simp
          have c0 := BC.c0
          have c1 := BC.c1
          have c2 := BC.c2
          have f0 := BC.f0
          have f1 := BC.f1
          have f2 := BC.f2
          go_simp
          have hS := hHeld.under (set3s_below (Nat.le_refl (v0.heap.size)) (.int .i64 y0) (.int .i64 y1) (.int .i64 y2)) GO.out RL.out
          have BC := BC.set (.int .i64 y0) (.int .i64 y1) (.int .i64 y2)
          refine hK.out _ _ hS (fun hHeld => ?_)
          clear hK K hHeld
          clear c0 c1 c2 f0 f1 f2
          change wpAnyH _ _ _ _ _ _ _ _ (set3 v5 (v0.heap.size) (.int .i64 y0) (.int .i64 y1) (.int .i64 y2))
          generalize set3 v5 (v0.heap.size) (.int .i64 y0) (.int .i64 y1) (.int .i64 y2) = v6 at *
          have hHeld := hS
          clear hS
          try simp only [Act.put, List.setIfInBounds_toArray, List.set_cons_zero, List.set_cons_succ]
          refine wpAnyH_take (i := 16) (oi := { dst := some 10, op := Op.assign (Operand.tmp 41), type := 24, pos := "ref.go:151", after := #[{ on := 13, ground := Ground.data }, { on := 15, ground := Ground.chain }, { on := 0, ground := Ground.phase }, { on := 1, ground := Ground.phase }, { on := 2, ground := Ground.phase }, { on := 3, ground := Ground.phase }, { on := 4, ground := Ground.phase }, { on := 5, ground := Ground.phase }, { on := 6, ground := Ground.phase }, { on := 7, ground := Ground.phase }, { on := 8, ground := Ground.phase }, { on := 9, ground := Ground.phase }, { on := 10, ground := Ground.phase }, { on := 11, ground := Ground.phase }, { on := 12, ground := Ground.phase }, { on := 13, ground := Ground.phase }, { on := 14, ground := Ground.phase }, { on := 15, ground := Ground.phase }], guard := none }) (v := ?_) rfl (by kernel_rfl) (by kernel_rfl) (by kernel_rfl) (fun _ _ _ h => h) (Or.inl ⟨by rfl, ?_⟩) (by assumption) ?_
          rotate_left
          · (intro wq hSw; (try dsimp only at hSw); have a0 := hSw.a.c0; have b0 := hSw.b.c0; have p0 := (hSw.below.cell (p := ⟨ba, oa + X.length * 3, none⟩) hba).trans PA.out.1; have p1 := (hSw.below.cell (p := ⟨ba, oa + X.length * 3 + 1, none⟩) hba).trans PA.out.2.1; have p2 := (hSw.below.cell (p := ⟨ba, oa + X.length * 3 + 2, none⟩) hba).trans PA.out.2.2; have q0 := (hSw.below.cell (p := ⟨bb, ob + X.length * 3, none⟩) hbb).trans PB.out.1; have q1 := (hSw.below.cell (p := ⟨bb, ob + X.length * 3 + 1, none⟩) hbb).trans PB.out.2.1; have q2 := (hSw.below.cell (p := ⟨bb, ob + X.length * 3 + 2, none⟩) hbb).trans PB.out.2.2; clear hSw; go_simp; first | done | with_reducible rfl)
          try simp only [Act.put, List.setIfInBounds_toArray, List.set_cons_zero, List.set_cons_succ]
          refine wpAnyH_done (by kernel_rfl) ?_ _
          have E3 := Lib.hid hHeld
          have X3 := Lib.hid BC
          clear hHeld BC
          have r0 := E3.out.r.c0
          have r1 := E3.out.r.c1
          have r2 := E3.out.r.c2
          have r3 := E3.out.r.c3
          have g0 := E3.out.r.f0
          have x0' := X3.out.c0
          have x1' := X3.out.c1
          have x2' := X3.out.c2
          have sz := E3.out.r.size
          have zx := X3.out.size
          go_wp2_with (first | (at_builtin; refine wpList_append_own _ rfl (.tmp 43) (.tmp 45) 40 rfl (rb + 1) 23 i0 (.agg #[.int .i64 0, .int .i64 0, .int .i64 0]) 3 24 Try.underlying40 hi hz0 hz1 hz2 rfl (by decide) _ X.length (cells3 X) rfl (E3.out.own.alloc _) ⟨v6.heap.size, 0, none⟩ 1 1 (cells3 [(y0, y1, y2)]) rfl rfl ?c1 ?c2 ?c3 ?c4 ?c5 ?_))
          case c1 => exact World.news_of_block (cs := #[.int .i64 y0, .int .i64 y1, .int .i64 y2]) (t := 23) (fr := (0, 0)) (heap_alloc_new v6 _)
          case c2 => exact cells3_one _
          case c3 => unfold maxLen; omega
          case c4 => omega
          case c5 => simp; omega
          intro u' w4 own4 grow4 _
          obtain ⟨g', cap4, rfl⟩ := ownsRow_succ own4
          have E4 := Lib.hid ((E3.out.keep (below_new v6 (.cells #[.int .i64 y0, .int .i64 y1, .int .i64 y2] 23))).add own4 grow4)
          have B4 : Below (rb + 1) (v6.alloc (.cells #[.int .i64 y0, .int .i64 y1, .int .i64 y2] 23)) w4 := (Below.refl _ _).grown grow4 (by simp; omega) (fun g hg => (((E3.out.own.alloc (.cells #[.int .i64 y0, .int .i64 y1, .int .i64 y2] 23)).lt g hg)).1)
          have R4 := Lib.hid (blk_under (E3.out.r.keep (below_new v6 (.cells #[.int .i64 y0, .int .i64 y1, .int .i64 y2] 23))) B4 (by omega))
          clear own4 grow4 B4 E3 X3 r0 r1 r2 r3 g0 x0' x1' x2' sz zx
          have r0 := R4.out.c0
          have g0 := R4.out.f0
          go_wp2_with fail
          go_roundg (L.length - X.length)
          case measure => exact KG.out
          case rel => exact ⟨X ++ [(y0, y1, y2)], _, _, by simp, ⟨by simp; omega, by simp; omega⟩, Lib.hid (fun i x hx => by
              by_cases c : i < X.length
              · rw [List.getElem?_append_left c] at hx; exact hz.out i x hx
              · rw [List.getElem?_append_right (by omega)] at hx
                have e : i = X.length := by
                  have := (List.getElem?_eq_some_iff.1 hx).1
                  simp at this; omega
                subst e
                simp at hx; subst hx; exact ⟨_, _, FA.out, FB.out, HF.out⟩), E4⟩
        exact AllReadyH.nil
      · obtain eL : X.length = L.length := by omega
        have r0 := E1.out.r.c0
        have r1 := E1.out.r.c1
        have r2 := E1.out.r.c2
        have r3 := E1.out.r.c3
        have z0 := E1.out.z.f0
        have z1 := E1.out.z.f1
        have z2 := E1.out.z.f2
        have z3 := E1.out.z.f3
        have q0 := E1.out.z.c0
        have q1 := E1.out.z.c1
        have q2 := E1.out.z.c2
        have q3 := E1.out.z.c3
        have EL := Lib.hid eL
        clear eL
        go_wp2
        refine bodyPost_ret (v := .tuple #[.agg #[.slice ro X.length rc, .int .i64 k, .int .i64 s, .int .i64 h], .int .i64 0]) (by simp [results, Try.results83, go_sem, *]) rfl ⟨_, _, _, _, _, rfl, ?_, Lib.hid (Or.inl ⟨C.out, rfl, rfl, rfl, rfl, X, ⟨EL.out, hz.out⟩, ?_⟩)⟩
        · repeat (first | exact E1.out.below | refine Below.setCell ?_ (by simp; try omega) _)
        · have l := E1.out.lt
          refine owns_base (base := rb + 1) ?_ (by omega)
          repeat (first | exact E1.out.own | refine ownsRow_setCell_below ?_ (by simp; try omega) _)
  · have c' : (dboth L k s h M k' s' h' != 0) = true := by simp [c]
    have C := Lib.hid c
    clear c
    have z0 := Z1.out.c0
    have z1 := Z1.out.c1
    have z2 := Z1.out.c2
    have z3 := Z1.out.c3
    have f0 := Z1.out.f0
    have f1 := Z1.out.f1
    have f2 := Z1.out.f2
    have f3 := Z1.out.f3
    go_wp2
    refine bodyPost_ret (v := .tuple #[.agg #[.slice none 0 0, .int .i64 0, .int .i64 0, .int .i64 0], .int .i64 (dboth L k s h M k' s' h')]) (by simp [results, Try.results83, go_sem, *]) rfl ⟨_, _, _, _, _, rfl, ?_, Lib.hid (Or.inr ⟨C.out, rfl, rfl, rfl, rfl, rfl⟩)⟩
    repeat (first | exact B1.out | refine Below.setCell ?_ (by simp; try omega) _)
end Go.Proofs.Ytabgphlpdoockaa
namespace Go.Proofs.Ytabgphlpdoockaa
/-- right ascending ranges -/
def Up (L : List R3) : Prop := ∀ x ∈ L, chk x.1 x.2.1 x.2.2 = 0 ∧ ¬ x.2.2 < 0
theorem siz_nn {l h s : Int} (hk : chk l h s = 0) : 0 ≤ siz l h s := (siz_bdn hk).1
/-- what two ranges have in common is no more than the first one, and as much only if all of it -/
theorem siz_meet {a b c : R3} (hA : chk a.1 a.2.1 a.2.2 = 0) (hB : chk b.1 b.2.1 b.2.2 = 0) (f : InterF a.1 a.2.1 a.2.2 b.1 b.2.1 b.2.2 c.1 c.2.1 c.2.2) :
    siz c.1 c.2.1 c.2.2 ≤ siz a.1 a.2.1 a.2.2 ∧ (siz c.1 c.2.1 c.2.2 = siz a.1 a.2.1 a.2.2 → ∀ n, RMem a.1 a.2.1 a.2.2 n → RMem b.1 b.2.1 b.2.2 n) := by
  have e := nums_inter hA hB f.1 f.2.1 f.2.2
  have la := nums_len a.1 a.2.1 a.2.2
  have lc := nums_len c.1 c.2.1 c.2.2
  have na := siz_nn hA
  have nc := siz_nn f.1
  have le := List.length_filter_le (fun n => posB b.1 b.2.1 b.2.2 n) (numsL a.1 a.2.1 a.2.2)
  rw [← e] at le
  refine ⟨by omega, fun es n hn => ?_⟩
  have h1 : ((numsL a.1 a.2.1 a.2.2).filter (fun n => posB b.1 b.2.1 b.2.2 n)).length = (numsL a.1 a.2.1 a.2.2).length := by rw [← e]; omega
  have h2 := List.length_filter_eq_length_iff.1 h1 n ((nums_mem hA n).2 hn)
  exact (posB_iff hB).1 h2
theorem prod_le {A C : List R3} (hl : A.length = 1 ∨ A.length = 2) (hC : C.length = A.length) (h : ∀ (i : Nat) (x z : R3), A[i]? = some x → C[i]? = some z → 0 ≤ siz z.1 z.2.1 z.2.2 ∧ siz z.1 z.2.1 z.2.2 ≤ siz x.1 x.2.1 x.2.2) :
    prodL C ≤ prodL A ∧ (prodL C = prodL A → ¬ prodL A = 0 → ∀ (i : Nat) (x z : R3), A[i]? = some x → C[i]? = some z → siz z.1 z.2.1 z.2.2 = siz x.1 x.2.1 x.2.2) := by
  rcases hl with hl | hl
  · match A, C, hl, hC with
    | [x], [z], _, _ =>
      have h0 := h 0 x z rfl rfl
      refine ⟨by simpa [prodL] using h0.2, fun e _ i x' z' hx hz => ?_⟩
      match i, hx, hz with
      | 0, hx, hz =>
        simp at hx hz
        subst hx; subst hz
        simpa [prodL] using e
  · match A, C, hl, hC with
    | [x, y], [z, t], _, _ =>
      have h0 := h 0 x z rfl rfl
      have h1 := h 1 y t rfl rfl
      simp only [prodL]
      generalize ha : siz x.1 x.2.1 x.2.2 = a at *
      generalize hb : siz y.1 y.2.1 y.2.2 = b at *
      generalize hc : siz z.1 z.2.1 z.2.2 = c at *
      generalize hd : siz t.1 t.2.1 t.2.2 = d at *
      have m1 : c * d ≤ a * d := Int.mul_le_mul_of_nonneg_right h0.2 h1.1
      have m2 : a * d ≤ a * b := Int.mul_le_mul_of_nonneg_left h1.2 (by omega)
      refine ⟨by omega, fun e ne => ?_⟩
      have a0 : ¬ a = 0 := fun e => ne (by rw [e]; simp)
      have b0 : ¬ b = 0 := fun e => ne (by rw [e]; simp)
      have e1 : a * d = a * b := by omega
      have ed : d = b := Int.eq_of_mul_eq_mul_left a0 e1
      have e2 : c * d = a * d := by omega
      have ec : c = a := Int.eq_of_mul_eq_mul_right (by rw [ed]; exact b0) e2
      intro i x' z' hx hz
      match i, hx, hz with
      | 0, hx, hz =>
        simp at hx hz
        subst hx; subst hz
        rw [ha, hc, ec]
      | 1, hx, hz =>
        simp at hx hz
        subst hx; subst hz
        rw [hb, hd, ed]
theorem prod_zero {A : List R3} (hl : A.length = 1 ∨ A.length = 2) : prodL A = 0 ↔ ∃ (i : Nat) (x : R3), A[i]? = some x ∧ siz x.1 x.2.1 x.2.2 = 0 := by
  rcases hl with hl | hl
  · match A, hl with
    | [x], _ =>
      simp only [prodL]
      refine ⟨fun h => ⟨0, x, rfl, h⟩, ?_⟩
      rintro ⟨i, y, hy, h⟩
      match i, hy with
      | 0, hy => simp at hy; subst hy; exact h
  · match A, hl with
    | [x, y], _ =>
      simp only [prodL]
      refine ⟨fun h => ?_, ?_⟩
      · rcases Int.mul_eq_zero.1 h with h | h
        · exact ⟨0, x, rfl, h⟩
        · exact ⟨1, y, rfl, h⟩
      · rintro ⟨i, z, hz, h⟩
        match i, hz with
        | 0, hz => simp at hz; subst hz; rw [h]; simp
        | 1, hz => simp at hz; subst hz; rw [h]; simp
end Go.Proofs.Ytabgphlpdoockaa
