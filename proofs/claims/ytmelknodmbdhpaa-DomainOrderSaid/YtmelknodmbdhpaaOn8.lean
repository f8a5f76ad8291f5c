/-
  Part 8: DomG, RndH, DomH.
-/
import Derived.Test.YtmelknodmbdhpaaOn7
import Derived.BigQuiet
import Derived.Deep.CutBlock
import Derived.Deep.DeepCutAuto
import Derived.Deep.DrawnRows
import Derived.Deep.LoopGhost
import Derived.Deep.QuietTactic
import Derived.Deep.RegionHeld
import Derived.Deep.RegionHeld3
import Derived.Deep.RegionWith
import Derived.Lib.Hide
import Derived.LoopIn
import Derived.LoopNIn
import Derived.Maps.AppendAt
import Derived.OrdersHeld
import Derived.OrdersIn
import Derived.OwnWalk
import Derived.OwnWalkIn
import Derived.RangeFuncBound
import Derived.RangeFuncBox
import Derived.RangeFuncCalls
import Derived.RangeFuncLeaves
import Derived.RangeFuncNested
import Derived.Shelf.Abstract
import Derived.Shelf.RegionOpen
import Derived.TacticsInMore
import Derived.WalkKit
import Derived.WalkLawsBesides
import Derived.WalkSpells
namespace Go.Proofs.Ytmelknodmbdhpaa
open Go.RowKit Go.Shelf
attribute [local go_sem] Oper.semAt_some
/-- what a round of the loop keeps: memory below a block, and the box of the slice -/
def Kn (n₀ Bn : Nat) (W W' : World) : Prop := Below n₀ W W' ∧ W'.heap[Bn]? = W.heap[Bn]?
theorem kn_trans {n₀ Bn : Nat} {a b c : World} (h : Kn n₀ Bn a b) (k : Kn n₀ Bn b c) : Kn n₀ Bn a c := ⟨h.1.trans k.1, k.2.trans h.2⟩
abbrev NR := Nat × R3
/-- the first k of the positions and ranges, from behind -/
def backU (L : List R3) (k : Nat) : List NR := (List.range k).map fun j => (L.length - 1 - j, L.getD (L.length - 1 - j) (0, 0, 0))
theorem backU_succ (L : List R3) (k : Nat) : backU L (k + 1) = backU L k ++ [(L.length - 1 - k, L.getD (L.length - 1 - k) (0, 0, 0))] := by
  unfold backU; rw [List.range_succ, List.map_append]; rfl
theorem backU_length (L : List R3) (k : Nat) : (backU L k).length = k := by unfold backU; simp
theorem backU_prefix (L : List R3) {k n : Nat} (hk : k ≤ n) : backU L k <+: backU L n := by
  induction n with
  | zero => obtain rfl : k = 0 := by omega
            exact List.prefix_refl _
  | succ n ih =>
    by_cases c : k = n + 1
    · subst c; exact List.prefix_refl _
    · rw [backU_succ]; exact (ih (by omega)).trans (List.prefix_append _ _)
/-- the cells of a list of ranges -/
def At3 (w : World) (b o : Nat) (L : List R3) : Prop := ∀ (j : Nat) (x : R3), L[j]? = some x → w.cell? ⟨b, o + j * 3, none⟩ = some (.int .i64 x.1) ∧ w.cell? ⟨b, o + j * 3 + 1, none⟩ = some (.int .i64 x.2.1) ∧ w.cell? ⟨b, o + j * 3 + 2, none⟩ = some (.int .i64 x.2.2)
theorem At3.under {w w' : World} {b o B : Nat} {L : List R3} (h : At3 w b o L) (hb : Below B w w') (hlt : b < B) : At3 w' b o L := fun j x hx =>
  ⟨(hb.cell (p := ⟨b, o + j * 3, none⟩) hlt).trans (h j x hx).1, (hb.cell (p := ⟨b, o + j * 3 + 1, none⟩) hlt).trans (h j x hx).2.1, (hb.cell (p := ⟨b, o + j * 3 + 2, none⟩) hlt).trans (h j x hx).2.2⟩
theorem row1 {w : World} {g : Nat} {a : Value} {t : TypeId} (h : w.heap[g]? = some (.cells #[a] t (0, 0))) : w.cell? ⟨g, 0, none⟩ = some a := by simp [World.cell?, h]
set_option maxRecDepth 100000 in
set_option maxHeartbeats 3200000 in
theorem back1_in (n : Nat) (hn : 1 ≤ n) (l' Bn n₀ b o cap : Nat) (L : List R3) (hb : b < n₀) (hL2 : L.length ≤ 2) (J Jx : List NR → World → Prop)
    (hY : ∀ pre x W, J pre W → pre.length < L.length → L[x.1]? = some x.2 → YieldAt Fence.wide (n - 1) Try.prog l' #[.int .i64 (x.1 : Nat), .agg #[.int .i64 x.2.1, .int .i64 x.2.2.1, .int .i64 x.2.2.2]] W fun e W' =>
      (e = .returned (.bool true) ∧ J (pre ++ [x]) W' ∧ Kn n₀ Bn W W') ∨ (e = .returned (.bool false) ∧ Jx (pre ++ [x]) W'))
    (W : World) (hBn : Hid (W.heap[Bn]? = some (.cells #[.slice (some ⟨b, o, none⟩) L.length cap] 40 (0, 0)))) (hc : Hid (At3 W b o L)) (h0 : J [] W) :
    CallsIn Fence.wide n Try.prog 174 #[.func (.yield l') #[] #[], .pointer (some ⟨Bn, 0, none⟩)] W fun e W' => (∃ v, e = .returned v) ∧
      ((∃ ys, ys = backU L L.length ∧ J ys W') ∨ (∃ pre, pre <+: backU L L.length ∧ Jx pre W')) := by
  have HY := Lib.hid hY
  have J0 := Lib.hid h0
  have x0 := row1 hBn.out
  clear hY h0
  refine callsIn_of_wp Try.func174 rfl trivial ?_ rfl
  simp only [Try.ntmps174, List.size_toArray, List.length_cons, List.length_nil, Nat.reduceAdd, Nat.reduceSub, Array.replicate_succ, Array.replicate_zero, List.push_toArray, List.append_toArray, List.nil_append, List.cons_append]
  gi_wp2_with fail
  gi_loopw [3] (fun v wr => ∃ (k : Nat) (iv : Int), v = .int .i64 iv ∧ k ≤ L.length ∧ Hid (iv = (L.length : Int) - 1 - k) ∧ Hid (J (backU L k) wr) ∧ Hid (wr.heap[Bn]? = some (.cells #[.slice (some ⟨b, o, none⟩) L.length cap] 40 (0, 0))) ∧ Hid (At3 wr b o L))
    (fun v _ => (intOf v + 1).toNat)
  case atStart => exact ⟨0, _, rfl, Nat.zero_le _, Lib.hid (by simp), J0, hBn, hc⟩
  case round =>
    obtain ⟨k, iv, rfl, hk, hiv, J1, B1, C1⟩ := hrel
    clear x0
    by_cases hlt : k < L.length
    · obtain ⟨j, rfl⟩ : ∃ j : Nat, iv = (j : Int) := ⟨L.length - 1 - k, by rw [hiv.out]; omega⟩
      have ej : Hid (j = L.length - 1 - k) := Lib.hid (by have := hiv.out; omega)
      have jl : j < L.length := by have := ej.out; omega
      obtain ⟨x, hx⟩ : ∃ x, L[j]? = some x := ⟨L[j], List.getElem?_eq_getElem jl⟩
      obtain ⟨p0, p1, p2⟩ := C1.out j x hx
      have eb : Hid (backU L (k + 1) = backU L k ++ [(j, x)]) := Lib.hid (by rw [backU_succ, ← ej.out]; simp [List.getD, hx])
      have y0 := row1 B1.out
      have jw : IntKind.i64.wrap ((j : Int) - 1) = (j : Int) - 1 := IntWalk.i64_in _ (by omega)
      have j0 : (0 : Int) ≤ j := by omega
      obtain ⟨fn, tmps, assign, body, hy, hR⟩ := HY.out (backU L k) (j, x) wr J1.out (by rw [backU_length]; exact hlt) hx
      have KK := Lib.hid hk
      clear hx hk
      gi_wp2
      refine hR.mono ?_
      rintro e W3 (⟨rfl, hJ3, hk3⟩ | ⟨rfl, hJx3⟩)
      · have J3 := Lib.hid hJ3
        have B3' := Lib.hid (hk3.2.trans B1.out)
        have C3 := Lib.hid (C1.out.under hk3.1 hb)
        clear hJ3 hk3 hR hy p0 p1 p2 y0 J1 B1 C1
        gi_wp2
        go_roundw
        case rel => exact ⟨k + 1, _, rfl, by omega, Lib.hid (by have := ej.out; push_cast; omega), by rw [eb.out]; exact J3, B3', C3⟩
        case measure => simp [intOf]
      · have JX := Lib.hid hJx3
        clear hJx3 hR hy
        gi_wp2
        refine bodyPost_ret (results_none rfl _ _ _) rfl ?_
        refine ⟨⟨_, rfl⟩, .inr ⟨_, ?_, JX.out⟩⟩
        rw [← eb.out]
        exact backU_prefix L (by omega)
    · obtain rfl : k = L.length := by omega
      have neg : iv < 0 := by rw [hiv.out]; omega
      gi_wp2
      go_end0
      exact ⟨⟨_, rfl⟩, .inl ⟨_, rfl, J1.out⟩⟩
/-- Backward hands back a closure over a box of the slice. -/
theorem back_any (v : Option Addr) (n c : Nat) (w : World) : Calls Try.prog 143 #[.slice v n c] w fun e w' => e = .returned (.func (.func 174) #[] #[.pointer (some ⟨w.heap.size, 0, none⟩)]) ∧ w.alloc (.cells #[.slice v n c] 40) = w' := by
  go_enter Try.func143, Try.ntmps143
  go_wp2
  go_ret
  exact ⟨rfl, rfl⟩
end Go.Proofs.Ytmelknodmbdhpaa
namespace Go.Proofs.Ytmelknodmbdhpaa
open Go.RowKit
/-- an operation that is no defer -/
def noDef (o : Oper) : Bool := match o.op with | .defer _ => false | _ => true
theorem noDef_ne {o : Oper} (h : noDef o = true) (c : Call) : o.op ≠ .defer c := by
  intro e; unfold noDef at h; rw [e] at h; cases h
theorem wpOpIn_of_wpOp {l n : Nat} {P : Program} {ops : Array Oper} {Q : Exit → Act → World → Prop} {i : Nat} {K : Act → World → Prop} {a : Act} {w : World} (hnd : ops.all noDef = true) (hQ : ¬ LetsOut Q)
    (h : wpOp P ops Q i K a w) : wpOpIn (Fence.wide.inRound l) n P ops Q i K a w := by
  unfold wpOp at h
  unfold wpOpIn
  cases ho : ops[i]? with
  | none => rw [ho] at h; exact h
  | some o =>
    rw [ho] at h
    have nd : noDef o = true := by
      obtain ⟨hi, e⟩ := Array.getElem?_eq_some_iff.1 ho
      have := Array.all_eq_true.1 hnd i hi
      rwa [e] at this
    simp only at h ⊢
    split
    · rename_i hw
      rw [if_pos hw] at h
      rcases h with h | ⟨_, h⟩
      · unfold Oper.wpIn
        refine ⟨fun _ _ => trivial, ?_⟩
        rw [Oper.semAt_eq _ _ _ (noDef_ne nd)]
        unfold Oper.wp at h
        generalize (execOp a.eval o).run P w = r at *
        cases r with
        | ok x w' =>
          cases x <;> simp only [Oper.upon] at h <;> simp only [Oper.uponIn]
          all_goals first
            | exact h
            | exact h.elim
            | exact ⟨fun e => by simp [Fence.wide] at e, (callsIn_wide.2 h : CallsIn Fence.wide (n - 1) P _ _ _ _)⟩
            | exact ⟨fun e => by simp [Fence.wide] at e, fun c cs _ => let ⟨v, w', r, s⟩ := h c cs; ⟨v, w', r, stepsIn_wide.2 s⟩⟩
        | halt x w' => cases x <;> simp only [Oper.upon] at h <;> simp only [Oper.uponIn] <;> first | exact h | exact h.elim
      · exact absurd h hQ
    · rename_i hw
      rw [if_neg hw] at h
      exact ⟨fun _ _ => trivial, h⟩
theorem wpAnyIn_of_wpAny {l n : Nat} {P : Program} {md : Region.Mode} {ops : Array Oper} {Q : Exit → Act → World → Prop} (hnd : ops.all noDef = true) (hQ : ¬ LetsOut Q) :
    ∀ (fuel : Nat) (listed : Array Bool) (a : Act) (w : World), wpAny P md ops Q fuel listed a w → wpAnyIn (Fence.wide.inRound l) n P md ops Q fuel listed a w
  | 0, _, _, _, h => h
  | fuel + 1, _, _, _, h => ⟨h.1, fun i hi => wpOpIn_mono (fun _ _ h' => wpAnyIn_of_wpAny hnd hQ fuel _ _ _ h') (wpOpIn_of_wpOp hnd hQ (h.2 i hi))⟩
/-- the region's law, in a round -/
theorem wpIn_round_held {l n : Nat} {P : Program} {id : Nat} {ops : Array Oper} {Q : Exit → Act → World → Prop} {S : World → Prop} {a : Act} {w : World} (hm : P.follows .mixedOrders = true) (hnd : ops.all noDef = true) (hS : S w.drew)
    (h : S w.drew → wpAnyH P .any ops (fun e a w => e = .normal ∧ Q .normal a w) S ops.size (Array.replicate ops.size false) a w.drew) : (Code.region id ops true).wpIn (Fence.wide.inRound l) n P Q a w :=
  wpIn_mono (wpIn_region_any hm (wpAnyIn_of_wpAny (Q := fun e a w => e = .normal ∧ Q .normal a w) hnd (fun h' => by obtain ⟨_, _, h1, _⟩ := h'; exact nomatch h1) _ _ _ _ (wpAny_of_held _ _ _ _ (h hS)))) (by rintro _ _ _ ⟨rfl, h⟩; exact h)
end Go.Proofs.Ytmelknodmbdhpaa
namespace Go.Proofs.Ytmelknodmbdhpaa
open Go.RowKit Go.Shelf
attribute [local go_sem] Oper.semAt_some
abbrev PosR := Nat × R3
/-- what a dimension does to the rest of a position and to the index -/
def nthStep (s : Int × List Int) (x : PosR) : Int × List Int := (s.1 / siz x.2.1 x.2.2.1 x.2.2.2, s.2.set x.1 (nthN x.2.1 x.2.2.1 x.2.2.2 (s.1 % siz x.2.1 x.2.2.1 x.2.2.2)))
/-- the rest of the position and the index behind some dimensions -/
def stP (n : Nat) (i : Int) (pre : List PosR) : Int × List Int := pre.foldl nthStep (i, List.replicate n 0)
theorem stP_snoc (n : Nat) (i : Int) (pre : List PosR) (x : PosR) : stP n i (pre ++ [x]) = nthStep (stP n i pre) x := by
  unfold stP; rw [List.foldl_append]; rfl
theorem stP_len (n : Nat) (i : Int) (pre : List PosR) : (stP n i pre).2.length = n := by
  unfold stP
  suffices ∀ (l : List PosR) (s : Int × List Int), (l.foldl nthStep s).2.length = s.2.length by rw [this]; simp
  intro l
  induction l with
  | nil => intro s; rfl
  | cons x l ih => intro s; rw [List.foldl_cons, ih]; simp [nthStep]
theorem stP_bd (n : Nat) {i : Int} (h0 : 0 ≤ i) (pre : List PosR) : 0 ≤ (stP n i pre).1 ∧ (stP n i pre).1 ≤ i := by
  unfold stP
  suffices ∀ (l : List PosR) (s : Int × List Int), 0 ≤ s.1 → 0 ≤ (l.foldl nthStep s).1 ∧ (l.foldl nthStep s).1 ≤ s.1 from this _ _ h0
  intro l
  induction l with
  | nil => intro s hs; exact ⟨hs, Int.le_refl _⟩
  | cons x l ih =>
    intro s hs
    have h1 : 0 ≤ s.1 / siz x.2.1 x.2.2.1 x.2.2.2 := Int.ediv_nonneg hs (siz_bdA _ _ _).1
    have h2 : s.1 / siz x.2.1 x.2.2.1 x.2.2.2 ≤ s.1 := Int.ediv_le_self _ hs
    have h3 := ih (nthStep s x) h1
    rw [List.foldl_cons]
    exact ⟨h3.1, Int.le_trans h3.2 h2⟩
/-- the index with a position -/
def idxL (L : List R3) (i : Int) : List Int := (stP L.length i (backU L L.length)).2
theorem idxL_len (L : List R3) (i : Int) : (idxL L i).length = L.length := stP_len _ _ _
theorem idxL_one (x : R3) (i : Int) : idxL [x] i = [nthN x.1 x.2.1 x.2.2 (i % siz x.1 x.2.1 x.2.2)] := rfl
theorem idxL_two (x y : R3) (i : Int) : idxL [x, y] i = [nthN x.1 x.2.1 x.2.2 (i / siz y.1 y.2.1 y.2.2 % siz x.1 x.2.1 x.2.2), nthN y.1 y.2.1 y.2.2 (i % siz y.1 y.2.1 y.2.2)] := rfl
theorem siz_pos_of {L : List R3} (hn : L.length ≤ 2) (hp : 0 < prodL L) {x : R3} (hx : x ∈ L) : 1 ≤ siz x.1 x.2.1 x.2.2 := by
  match L, hn, hx with
  | [a], _, hx => simp at hx; subst hx; simp only [prodL] at hp; omega
  | [a, b], _, hx =>
    simp only [prodL] at hp
    have h1 := siz_bdA a.1 a.2.1 a.2.2
    have h2 := siz_bdA b.1 b.2.1 b.2.2
    have n1 : siz a.1 a.2.1 a.2.2 ≠ 0 := fun e => by rw [e] at hp; simp at hp
    have n2 : siz b.1 b.2.1 b.2.2 ≠ 0 := fun e => by rw [e] at hp; simp at hp
    simp at hx
    rcases hx with rfl | rfl <;> omega
/-- the error of a position -/
def dnthE (L : List R3) (k s h i : Int) : Int := if dchk L k s h = 0 then (if 0 ≤ i ∧ i < prodL L then 0 else 4) else dchk L k s h
/-- what Nth returns -/
def DNthRet (L : List R3) (k s h i : Int) (w : World) : Ending → World → Prop := fun e w' => ∃ (v : Value) (er : Int), e = .returned (.tuple #[v, .int .i64 er]) ∧ Below w.heap.size w w' ∧
  Hid (er = dnthE L k s h i ∧ ((er = 0 ∧ w'.ownsRow w.heap.size 3 1 v (idxL L i).length ((idxL L i).map (Value.int .i64))) ∨ (¬ er = 0 ∧ v = .slice none 0 0)))
/-- a block of ints -/
def RowB (w : World) (g : Nat) (R : List Int) : Prop := w.heap[g]? = some (.cells (R.map (Value.int .i64)).toArray 3 (0, 0))
theorem RowB.cell {w : World} {g : Nat} {R : List Int} (h : RowB w g R) {j : Nat} {y : Int} (hy : R[j]? = some y) : w.cell? ⟨g, j, none⟩ = some (.int .i64 y) := by
  have h' : w.heap[g]? = some (.cells (R.map (Value.int .i64)).toArray 3 (0, 0)) := h
  simp [World.cell?, h', hy]
theorem RowB.frozen {w : World} {g : Nat} {R : List Int} (h : RowB w g R) (j : Nat) : w.frozen? ⟨g, j, none⟩ = false := by
  have h' : w.heap[g]? = some (.cells (R.map (Value.int .i64)).toArray 3 (0, 0)) := h
  simp [World.frozen?, h']
theorem RowB.lt {w : World} {g : Nat} {R : List Int} (h : RowB w g R) : g < w.heap.size := (Array.getElem?_eq_some_iff.1 h).1
theorem RowB.set {w : World} {g : Nat} {R : List Int} (h : RowB w g R) (j : Nat) (u : Int) : RowB (w.setCell ⟨g, j, none⟩ (.int .i64 u)) g (R.set j u) := by
  obtain ⟨hlt, hk⟩ := Array.getElem?_eq_some_iff.1 h
  show (w.heap.modify g _)[g]? = _
  rw [Array.getElem?_eq_getElem (by simpa using hlt), Array.getElem_modify_self]
  rw [hk]
  simp
theorem RowB.else {w : World} {g C : Nat} {R : List Int} (h : RowB w g R) (hne : g ≠ C) (o : Nat) (v : Value) : RowB (w.setCell ⟨C, o, none⟩ v) g R := (Below.heap_setCell w ⟨C, o, none⟩ v g hne).trans h
theorem RowB.of_own {w : World} {base g n : Nat} {R : List Int} (hn : ¬ n = 0) (h : w.ownsRow base 3 1 (.slice (some ⟨g, 0, none⟩) n n) n (R.map (Value.int .i64))) : RowB w g R := by
  rcases h.2 with ⟨_, e⟩ | ⟨g', cap, cur, e, _, hg, _, _, hs, ht⟩
  · exact absurd e hn
  · injection e with e1 e2 e3
    cases e1; subst e3
    unfold RowB
    rw [hg]
    congr 1
    have : cur.toList = R.map (Value.int .i64) := by rw [← ht, List.take_of_length_le (by simp [hs])]
    rw [← this]
theorem RowB.own {w : World} {base g n : Nat} {R : List Int} (h : RowB w g R) (hb : base ≤ g) (hn : R.length = n) (hm : n ≤ maxLen) : w.ownsRow base 3 1 (.slice (some ⟨g, 0, none⟩) n n) n (R.map (Value.int .i64)) :=
  ⟨by simp [hn], Or.inr ⟨g, n, _, rfl, hb, h, Nat.le_refl _, hm, by simp [hn], by rw [List.take_of_length_le (by simp [hn])]⟩⟩
theorem heap_own {β : Type} (g : Nat) (o : Obj) (ho : o.isCells = true) : Own (fun (_ : β) (W : World) => W.heap[g]? = some o) := fun _ X Y row hs hg hrow =>
  (hg.block g (Array.getElem?_eq_some_iff.1 hs).1 (fun e => by obtain ⟨o', ho', hc⟩ := hrow g e.symm; rw [hs] at ho'; cases ho'; rw [ho] at hc; cases hc)).trans hs
theorem rowB_own {β : Type} (g : Nat) (f : β → List Int) : Own (fun (s : β) (W : World) => RowB W g (f s)) := fun s X Y row hs hg hrow =>
  (hg.block g (RowB.lt hs) (fun e => by obtain ⟨o', ho', hc⟩ := hrow g e.symm; rw [show X.heap[g]? = _ from hs] at ho'; cases ho'; cases hc)).trans hs
/-- what a round does -/
theorem nth_round {W W3 : World} {n₀ kb rb Bn p : Nat} {R : List Int} {kv kv' u : Int} {o : Obj}
    (hk : Boxed W kb 3 (.int .i64 kv)) (hr : RowB W rb R) (hne : rb ≠ kb) (hBn : W.heap[Bn]? = some o) (hk0 : n₀ ≤ kb) (hr0 : n₀ ≤ rb) (hn0 : n₀ ≤ W.heap.size) (hbk : Bn ≠ kb) (hbr : Bn ≠ rb) (b : Below W.heap.size W W3) :
    KeepsOthers W ((W3.setCell ⟨rb, p, none⟩ (.int .i64 u)).setCell ⟨kb, 0, none⟩ (.int .i64 kv')) ∧ Kn n₀ Bn W ((W3.setCell ⟨rb, p, none⟩ (.int .i64 u)).setCell ⟨kb, 0, none⟩ (.int .i64 kv')) ∧
      Boxed ((W3.setCell ⟨rb, p, none⟩ (.int .i64 u)).setCell ⟨kb, 0, none⟩ (.int .i64 kv')) kb 3 (.int .i64 kv') ∧ RowB ((W3.setCell ⟨rb, p, none⟩ (.int .i64 u)).setCell ⟨kb, 0, none⟩ (.int .i64 kv')) rb (R.set p u) := by
  have up : ∀ (g : Nat) (o : Obj), W.heap[g]? = some o → W3.heap[g]? = some o := fun g o h => (b.block g (Array.getElem?_eq_some_iff.1 h).1).trans h
  have k3 : Boxed W3 kb 3 (.int .i64 kv) := up _ _ hk
  have r3 : RowB W3 rb R := up _ _ hr
  refine ⟨?_, ⟨?_, ?_⟩, Boxed.set (v := .int .i64 kv) _ ((Below.heap_setCell W3 ⟨rb, p, none⟩ _ kb (Ne.symm hne)).trans k3), (r3.set p u).else hne _ _⟩
  · exact ((KeepsOthers.mk b.size (fun k o h _ => up k o h)).trans (KeepsOthers.setCell _ _ _)).trans (KeepsOthers.setCell _ _ _)
  · exact ((b.mono hn0).setCell (p := ⟨rb, p, none⟩) hr0 _).setCell (p := ⟨kb, 0, none⟩) hk0 _
  · rw [Below.heap_setCell _ ⟨kb, 0, none⟩ _ Bn hbk, Below.heap_setCell _ ⟨rb, p, none⟩ _ Bn hbr, up _ _ hBn, hBn]
/-- a position and the range at it -/
abbrev VR (L : List R3) := { x : PosR // L[x.1]? = some x.2 }
theorem back_stops (n : Nat) (hn : 1 ≤ n) (Bn n₀ b o cap : Nat) (L : List R3) (hb : b < n₀) (hL2 : L.length ≤ 2) (w0 : World) (hb0 : b < w0.heap.size) (hBn : Hid (w0.heap[Bn]? = some (.cells #[.slice (some ⟨b, o, none⟩) L.length cap] 40 (0, 0)))) (hc : Hid (At3 w0 b o L)) :
    SeqStopsK Fence.wide n Try.prog 174 #[.pointer (some ⟨Bn, 0, none⟩)] (fun x : VR L => #[.int .i64 (x.1.1 : Nat), .agg #[.int .i64 x.1.2.1, .int .i64 x.1.2.2.1, .int .i64 x.1.2.2.2]]) (Kn n₀ Bn) (fun xs => xs.map (·.1) = backU L L.length) (fun pre => pre.map (·.1) <+: backU L L.length) L.length w0 := fun l' J Jx W hW _ _ hY h0 => by
  refine (back1_in n hn l' Bn n₀ b o cap L hb hL2 (fun ys W => ∃ xs : List (VR L), xs.map (·.1) = ys ∧ J xs W) (fun ys W => ∃ xs : List (VR L), xs.map (·.1) = ys ∧ Jx xs W) ?_ W (Lib.hid (heap_keep hBn.out hW)) (Lib.hid (hc.out.under hW hb0)) ⟨[], rfl, h0⟩).mono ?_
  · rintro pre x W1 ⟨xs, rfl, hJ⟩ hlt hx
    obtain ⟨fn, tmps, assign, body, hy, hR⟩ := hY xs ⟨x, hx⟩ W1 hJ (by simpa using hlt)
    refine ⟨fn, tmps, assign, body, hy, hR.mono ?_⟩
    rintro e W' (⟨rfl, h1, h2⟩ | ⟨rfl, h1⟩)
    · exact Or.inl ⟨rfl, ⟨_, by simp, h1⟩, h2⟩
    · exact Or.inr ⟨rfl, ⟨_, by simp, h1⟩⟩
  · rintro e W' ⟨hv, h⟩
    refine ⟨hv, ?_⟩
    rcases h with ⟨ys, rfl, xs, h1, h2⟩ | ⟨pre, h1, xs, rfl, h2⟩
    · exact Or.inl ⟨xs, h1, h2⟩
    · exact Or.inr ⟨xs, h1, h2⟩
/-- the domain's box and the position's box -/
theorem res41 {w w1 : World} {t t' : TypeId} {a b c d v : Value} (hb : Below ((w.alloc (.cells #[a, b, c, d] t)).alloc (.cells #[v] t')).heap.size ((w.alloc (.cells #[a, b, c, d] t)).alloc (.cells #[v] t')) w1) :
    Below w.heap.size w w1 ∧ Blk w.heap.size a b c d w1 ∧ Boxed w1 (w.heap.size + 1) t' v := by
  have e1 : (w.alloc (.cells #[a, b, c, d] t)).heap.size = w.heap.size + 1 := by simp
  have n0 := (Blk.new a b c d t w).keep (below_new _ (.cells #[v] t'))
  have n1 := Boxed.new (w.alloc (.cells #[a, b, c, d] t)) t' v
  rw [e1] at n1
  exact ⟨(((Below.refl _ _).alloc (Nat.le_refl _) _).alloc (by simp) _).trans (hb.mono (by simp; omega)), n0.keep hb, heap_keep n1 hb⟩
theorem to_drew {w w' : World} {B : Nat} (h : Below B w w') : Below B w w'.drew := ⟨h.os, h.tape, h.output, h.size, h.block⟩
theorem wp_calm {P : Program} {c : Code} {Q : Exit → Act → World → Prop} {a : Act} {w : World} (h : c.wp P (fun e a w => e = .normal ∧ Q .normal a w) a w) : c.wp P Q a w := wp_mono h (by rintro _ _ _ ⟨rfl, h⟩; exact h)
/-- the state ahead of the loop -/
structure FourW (w : World) (b o : Nat) (L : List R3) (cap : Nat) (i : Int) (rb ib : Nat) (w4 : World) : Prop where
  below : Below w.heap.size w w4
  k : Boxed w4 (w.heap.size + 1) 3 (.int .i64 i)
  ix : Boxed w4 ib 48 (.slice (some ⟨rb, 0, none⟩) L.length L.length)
  row : RowB w4 rb (List.replicate L.length 0)
  bn : w4.heap[ib + 1]? = some (.cells #[.slice (some ⟨b, o, none⟩) L.length cap] 40 (0, 0))
  at3 : At3 w4 b o L
  size : w4.heap.size = ib + 1 + 1
  rlt : rb < ib
  klt : w.heap.size + 1 < rb
/-- the state between two rounds -/
def nthI (w : World) (L : List R3) (i : Int) (rb ib : Nat) (ob : Obj) (pre : List (VR L)) (W : World) : Prop :=
  Boxed W (w.heap.size + 1) 3 (.int .i64 (stP L.length i (pre.map (·.1))).1) ∧ RowB W rb (stP L.length i (pre.map (·.1))).2 ∧ Boxed W ib 48 (.slice (some ⟨rb, 0, none⟩) L.length L.length) ∧ W.heap[ib + 1]? = some ob ∧ Below w.heap.size w W
theorem nthI_own {w : World} {L : List R3} {i : Int} {rb ib B : Nat} {c : Array Value} {t : TypeId} {fz : Nat × Nat} (hB : w.heap.size ≤ B) : OwnFrom B (nthI w L i rb ib (.cells c t fz)) :=
  OwnFrom.and (Own.from (boxed_own (w.heap.size + 1) 3 (fun pre : List (VR L) => .int .i64 (stP L.length i (pre.map (·.1))).1)) _) (OwnFrom.and (Own.from (rowB_own rb (fun pre : List (VR L) => (stP L.length i (pre.map (·.1))).2)) _) (OwnFrom.and (Own.from (boxed_own ib 48 (fun _ : List (VR L) => .slice (some ⟨rb, 0, none⟩) L.length L.length)) _) (OwnFrom.and (Own.from (heap_own (ib + 1) (.cells c t fz) rfl) _) (ownFrom_below (Nat.le_refl _) hB))))
theorem below_drew {w w' : World} {B : Nat} (h : Below B w.drew w') : Below B w w' := ⟨h.os, h.tape, h.output, h.size, h.block⟩
set_option maxRecDepth 100000 in
set_option maxHeartbeats 6400000 in
theorem Dnth_any (v : Value) (L : List R3) (k s h i : Int) (w : World) (hr : Rd w v L) (hL : Ok3 L) :
    Calls Try.prog 62 #[.agg #[v, .int .i64 k, .int .i64 s, .int .i64 h], .int .i64 i] w (DNthRet L k s h i w) := by
  obtain ⟨ao, cap, rfl, hc⟩ := hr
  have HR : Hid (Rd w (.slice ao L.length cap) L) := Lib.hid ⟨ao, cap, rfl, hc⟩
  have HCC := Lib.hid hc
  have HL := Lib.hid hL
  clear hc hL
  obtain ⟨i0, hi, hz0, hz1, hz2⟩ := info_parts Try.infoInt
  refine (callsIn_wide (n := 6)).1 ?_
  refine callsIn_of_wp_marks Try.func62 rfl trivial ?_ rfl
  simp only [Try.ntmps62, List.size_toArray, List.length_cons, List.length_nil, Nat.reduceAdd, Nat.reduceSub, Array.replicate_succ, Array.replicate_zero, List.push_toArray, List.append_toArray, List.nil_append, List.cons_append]
  refine wpIn_wide.2 ?_
  go_wp2_with fail
  refine (Dcheck_any _ L _ _ _ _ ((HR.out.keep (below_new _ _)).keep (below_new _ _)) HL.out).mono ?_
  rintro e w1 ⟨rfl, hb1⟩
  have R1 := res41 hb1
  have B1 := Lib.hid R1.1
  have D1 := Lib.hid R1.2.1
  have K1 := Lib.hid R1.2.2
  clear hb1 R1
  by_cases c : dchk L k s h = 0
  · have c' : (dchk L k s h != 0) = false := by simp [c]
    have C := Lib.hid c
    have rk := Lib.hid (dchk_rank c)
    clear c
    obtain ⟨b, o, rfl, hb, ca⟩ := HCC.out.resolve_left (by have := rk.out; omega)
    have CA := Lib.hid ca
    clear ca HCC
    have x0 := D1.out.c0
    have x1 := K1.out.cell
    go_upto_region 4 with fail
    refine wp_calm ?_
    by_cases n0 : i < 0
    · have n0' : decide (i < 0) = true := by simp [n0]
      have E : Hid (dnthE L k s h i = 4) := Lib.hid (by unfold dnthE; rw [if_pos C.out, if_neg (by omega)])
      refine wp_region_held_drew (S := (fun w' => w'.cell? ⟨w.heap.size, 0, none⟩ = some (.slice (some ⟨b, o, none⟩) L.length cap) ∧ w'.cell? ⟨w.heap.size + 1, 0, none⟩ = some (.int .i64 i))) (by kernel_rfl) ?_ (fun hHeld => ?_)
      · first | exact hHeld | exact ⟨x0, x1⟩ | (obtain ⟨q0, q1⟩ := hHeld; refine ⟨?_, ?_⟩ <;> simp [go_sem, *]; done) | go_keep
      refine wpAnyH_take (i := 0) (oi := { dst := some 16, op := Op.load 3 (Operand.tmp 3), type := 3, pos := "domain.go:95", after := #[], guard := none }) (v := ?_) rfl (by kernel_rfl) (by kernel_rfl) (by kernel_rfl) (fun _ _ _ h => nomatch h.1) (Or.inl ⟨by rfl, ?_⟩) (by assumption) ?_
      rotate_left
      · (intro w hSw; (try dsimp only at hSw); go_simp; first | done | with_reducible rfl)
      try simp only [Act.put, List.setIfInBounds_toArray, List.set_cons_zero, List.set_cons_succ]
      refine wpAnyH_take (i := 1) (oi := { dst := some 17, op := Op.binOp BinOp.lss 3 (Operand.tmp 16) (Operand.const (Value.int IntKind.i64 0)) 3, type := 4, pos := "domain.go:95", after := #[{ on := 0, ground := Ground.data }], guard := none }) (v := ?_) rfl (by kernel_rfl) (by kernel_rfl) (by kernel_rfl) (fun _ _ _ h => nomatch h.1) (Or.inl ⟨by rfl, ?_⟩) (by assumption) ?_
      rotate_left
      · (intro w hSw; (try dsimp only at hSw); go_simp; first | done | with_reducible rfl)
      try simp only [Act.put, List.setIfInBounds_toArray, List.set_cons_zero, List.set_cons_succ]
      refine wpAnyH_take (i := 2) (oi := { dst := some 18, op := Op.move (Operand.tmp 17), type := 4, pos := "domain.go:95", after := #[{ on := 1, ground := Ground.data }], guard := none }) (v := ?_) rfl (by kernel_rfl) (by kernel_rfl) (by kernel_rfl) (fun _ _ _ h => nomatch h.1) (Or.inl ⟨by rfl, ?_⟩) (by assumption) ?_
      rotate_left
      · (intro w hSw; (try dsimp only at hSw); go_simp; first | done | with_reducible rfl)
      try simp only [Act.put, List.setIfInBounds_toArray, List.set_cons_zero, List.set_cons_succ]
      refine wpAnyH_take (i := 3) (oi := { dst := some 19, op := Op.load 3 (Operand.tmp 3), type := 3, pos := "domain.go:95", after := #[{ on := 2, ground := Ground.guard }], guard := some (2, false) }) (v := undef) rfl (by kernel_rfl) (by kernel_rfl) (by kernel_rfl) (fun _ _ _ h => nomatch h.1) (Or.inr ⟨by rfl, rfl⟩) (by assumption) ?_
      try simp only [Act.put, List.setIfInBounds_toArray, List.set_cons_zero, List.set_cons_succ]
      refine wpAnyH_take (i := 4) (oi := { dst := some 20, op := Op.fieldAddr 62 (Operand.tmp 2) 0, type := 0, pos := "domain.go:95", after := #[{ on := 2, ground := Ground.guard }], guard := some (2, false) }) (v := undef) rfl (by kernel_rfl) (by kernel_rfl) (by kernel_rfl) (fun _ _ _ h => nomatch h.1) (Or.inr ⟨by rfl, rfl⟩) (by assumption) ?_
      try simp only [Act.put, List.setIfInBounds_toArray, List.set_cons_zero, List.set_cons_succ]
      refine wpAnyH_take (i := 5) (oi := { dst := some 21, op := Op.load 40 (Operand.tmp 20), type := 40, pos := "domain.go:95", after := #[{ on := 4, ground := Ground.data }, { on := 2, ground := Ground.guard }], guard := some (2, false) }) (v := undef) rfl (by kernel_rfl) (by kernel_rfl) (by kernel_rfl) (fun _ _ _ h => nomatch h.1) (Or.inr ⟨by rfl, rfl⟩) (by assumption) ?_
      try simp only [Act.put, List.setIfInBounds_toArray, List.set_cons_zero, List.set_cons_succ]
      refine wpAnyH_take (i := 6) (oi := { dst := some 22, op := Op.call { callee := Callee.value (Operand.func 142), args := #[Operand.tmp 21], argTypes := #[40] }, type := 3, pos := "domain.go:95", after := #[{ on := 5, ground := Ground.data }, { on := 2, ground := Ground.chain }, { on := 2, ground := Ground.guard }], guard := some (2, false) }) (v := undef) rfl (by kernel_rfl) (by kernel_rfl) (by kernel_rfl) (fun _ _ _ h => nomatch h.1) (Or.inr ⟨by rfl, rfl⟩) (by assumption) ?_
      try simp only [Act.put, List.setIfInBounds_toArray, List.set_cons_zero, List.set_cons_succ]
      refine wpAnyH_take (i := 7) (oi := { dst := some 23, op := Op.binOp BinOp.geq 3 (Operand.tmp 19) (Operand.tmp 22) 3, type := 4, pos := "domain.go:95", after := #[{ on := 3, ground := Ground.data }, { on := 6, ground := Ground.data }, { on := 2, ground := Ground.guard }], guard := some (2, false) }) (v := undef) rfl (by kernel_rfl) (by kernel_rfl) (by kernel_rfl) (fun _ _ _ h => nomatch h.1) (Or.inr ⟨by rfl, rfl⟩) (by assumption) ?_
      try simp only [Act.put, List.setIfInBounds_toArray, List.set_cons_zero, List.set_cons_succ]
      refine wpAnyH_take (i := 8) (oi := { dst := some 24, op := Op.pick (Operand.tmp 18) (Operand.const (Value.bool true)) (Operand.tmp 23), type := 4, pos := "domain.go:95", after := #[{ on := 2, ground := Ground.data }, { on := 7, ground := Ground.data }], guard := none }) (v := ?_) rfl (by kernel_rfl) (by kernel_rfl) (by kernel_rfl) (fun _ _ _ h => nomatch h.1) (Or.inl ⟨by rfl, ?_⟩) (by assumption) ?_
      rotate_left
      · (intro w hSw; (try dsimp only at hSw); go_simp; first | done | with_reducible rfl)
      try simp only [Act.put, List.setIfInBounds_toArray, List.set_cons_zero, List.set_cons_succ]
      refine wpAnyH_done (by kernel_rfl) ?_ _
      refine ⟨rfl, ?_⟩

      go_wp2
      exact ⟨_, by simp [results, Try.results62, go_sem, *], _, _, rfl, ⟨B1.out.os, B1.out.tape, B1.out.output, B1.out.size, B1.out.block⟩, Lib.hid ⟨E.out.symm, Or.inr ⟨by omega, rfl⟩⟩⟩
    · have n0' : decide (i < 0) = false := by simp [n0]
      refine wp_region_held_drew (S := (fun w' => w'.cell? ⟨w.heap.size, 0, none⟩ = some (.slice (some ⟨b, o, none⟩) L.length cap) ∧ w'.cell? ⟨w.heap.size + 1, 0, none⟩ = some (.int .i64 i))) (by kernel_rfl) ?_ (fun hHeld => ?_)
      · first | exact hHeld | exact ⟨x0, x1⟩ | (obtain ⟨q0, q1⟩ := hHeld; refine ⟨?_, ?_⟩ <;> simp [go_sem, *]; done) | go_keep
      refine wpAnyH_take (i := 0) (oi := { dst := some 16, op := Op.load 3 (Operand.tmp 3), type := 3, pos := "domain.go:95", after := #[], guard := none }) (v := ?_) rfl (by kernel_rfl) (by kernel_rfl) (by kernel_rfl) (fun _ _ _ h => nomatch h.1) (Or.inl ⟨by rfl, ?_⟩) (by assumption) ?_
      rotate_left
      · (intro w hSw; (try dsimp only at hSw); go_simp; first | done | with_reducible rfl)
      try simp only [Act.put, List.setIfInBounds_toArray, List.set_cons_zero, List.set_cons_succ]
      refine wpAnyH_take (i := 1) (oi := { dst := some 17, op := Op.binOp BinOp.lss 3 (Operand.tmp 16) (Operand.const (Value.int IntKind.i64 0)) 3, type := 4, pos := "domain.go:95", after := #[{ on := 0, ground := Ground.data }], guard := none }) (v := ?_) rfl (by kernel_rfl) (by kernel_rfl) (by kernel_rfl) (fun _ _ _ h => nomatch h.1) (Or.inl ⟨by rfl, ?_⟩) (by assumption) ?_
      rotate_left
      · (intro w hSw; (try dsimp only at hSw); go_simp; first | done | with_reducible rfl)
      try simp only [Act.put, List.setIfInBounds_toArray, List.set_cons_zero, List.set_cons_succ]
      refine wpAnyH_take (i := 2) (oi := { dst := some 18, op := Op.move (Operand.tmp 17), type := 4, pos := "domain.go:95", after := #[{ on := 1, ground := Ground.data }], guard := none }) (v := ?_) rfl (by kernel_rfl) (by kernel_rfl) (by kernel_rfl) (fun _ _ _ h => nomatch h.1) (Or.inl ⟨by rfl, ?_⟩) (by assumption) ?_
      rotate_left
      · (intro w hSw; (try dsimp only at hSw); go_simp; first | done | with_reducible rfl)
      try simp only [Act.put, List.setIfInBounds_toArray, List.set_cons_zero, List.set_cons_succ]
      refine wpAnyH_take (i := 3) (oi := { dst := some 19, op := Op.load 3 (Operand.tmp 3), type := 3, pos := "domain.go:95", after := #[{ on := 2, ground := Ground.guard }], guard := some (2, false) }) (v := ?_) rfl (by kernel_rfl) (by kernel_rfl) (by kernel_rfl) (fun _ _ _ h => nomatch h.1) (Or.inl ⟨by rfl, ?_⟩) (by assumption) ?_
      rotate_left
      · (intro w hSw; (try dsimp only at hSw); go_simp; first | done | with_reducible rfl)
      try simp only [Act.put, List.setIfInBounds_toArray, List.set_cons_zero, List.set_cons_succ]
      refine wpAnyH_take (i := 4) (oi := { dst := some 20, op := Op.fieldAddr 62 (Operand.tmp 2) 0, type := 0, pos := "domain.go:95", after := #[{ on := 2, ground := Ground.guard }], guard := some (2, false) }) (v := ?_) rfl (by kernel_rfl) (by kernel_rfl) (by kernel_rfl) (fun _ _ _ h => nomatch h.1) (Or.inl ⟨by rfl, ?_⟩) (by assumption) ?_
      rotate_left
      · (intro w hSw; (try dsimp only at hSw); go_simp; first | done | with_reducible rfl)
      try simp only [Act.put, List.setIfInBounds_toArray, List.set_cons_zero, List.set_cons_succ]
      refine wpAnyH_take (i := 5) (oi := { dst := some 21, op := Op.load 40 (Operand.tmp 20), type := 40, pos := "domain.go:95", after := #[{ on := 4, ground := Ground.data }, { on := 2, ground := Ground.guard }], guard := some (2, false) }) (v := ?_) rfl (by kernel_rfl) (by kernel_rfl) (by kernel_rfl) (fun _ _ _ h => nomatch h.1) (Or.inl ⟨by rfl, ?_⟩) (by assumption) ?_
      rotate_left
      · (intro w hSw; (try dsimp only at hSw); go_simp; first | done | with_reducible rfl)
      try simp only [Act.put, List.setIfInBounds_toArray, List.set_cons_zero, List.set_cons_succ]
      refine wpAnyH_ready (rs := [6]) (by kernel_rfl) (by simp) ?_
      refine AllReadyH.cons (o := { dst := some 22, op := Op.call { callee := Callee.value (Operand.func 142), args := #[Operand.tmp 21], argTypes := #[40] }, type := 3, pos := "domain.go:95", after := #[{ on := 5, ground := Ground.data }, { on := 2, ground := Ground.chain }, { on := 2, ground := Ground.guard }], guard := some (2, false) }) rfl (fun K hK => ?_) AllReadyH.nil
      go_simp
      refine (product_any _ L _ (HR.out.keep (to_drew B1.out)) HL.out (by have := rk.out; omega)).mono ?_
      rintro e w2 ⟨rfl, hb2'⟩
      have hb2 := below_drew hb2'
      go_wp2_with fail
      refine hK.out _ _ ?_ (fun hHeld6 => ?_)
      · (obtain ⟨q0, q1⟩ := hHeld; exact ⟨(hb2.cell (p := ⟨w.heap.size, 0, none⟩) D1.out.size).trans q0, (hb2.cell (p := ⟨w.heap.size + 1, 0, none⟩) K1.out.lt).trans q1⟩)
      clear hK K hHeld
      have hHeld := hHeld6
      clear hHeld6
      try simp only [Act.put, List.setIfInBounds_toArray, List.set_cons_zero, List.set_cons_succ]
      refine wpAnyH_take (i := 7) (oi := { dst := some 23, op := Op.binOp BinOp.geq 3 (Operand.tmp 19) (Operand.tmp 22) 3, type := 4, pos := "domain.go:95", after := #[{ on := 3, ground := Ground.data }, { on := 6, ground := Ground.data }, { on := 2, ground := Ground.guard }], guard := some (2, false) }) (v := ?_) rfl (by kernel_rfl) (by kernel_rfl) (by kernel_rfl) (fun _ _ _ h => nomatch h.1) (Or.inl ⟨by rfl, ?_⟩) (by assumption) ?_
      rotate_left
      · (intro w hSw; (try dsimp only at hSw); go_simp; first | done | with_reducible rfl)
      try simp only [Act.put, List.setIfInBounds_toArray, List.set_cons_zero, List.set_cons_succ]
      refine wpAnyH_take (i := 8) (oi := { dst := some 24, op := Op.pick (Operand.tmp 18) (Operand.const (Value.bool true)) (Operand.tmp 23), type := 4, pos := "domain.go:95", after := #[{ on := 2, ground := Ground.data }, { on := 7, ground := Ground.data }], guard := none }) (v := ?_) rfl (by kernel_rfl) (by kernel_rfl) (by kernel_rfl) (fun _ _ _ h => nomatch h.1) (Or.inl ⟨by rfl, ?_⟩) (by assumption) ?_
      rotate_left
      · (intro w hSw; (try dsimp only at hSw); go_simp; first | done | with_reducible rfl)
      try simp only [Act.put, List.setIfInBounds_toArray, List.set_cons_zero, List.set_cons_succ]
      refine wpAnyH_done (by kernel_rfl) ?_ _
      refine ⟨rfl, ?_⟩

      have B2 := Lib.hid (B1.out.trans (hb2.mono B1.out.size))
      have D2 := Lib.hid (D1.out.keep ⟨hb2.os, hb2.tape, hb2.output, hb2.size, hb2.block⟩)
      have K2 : Hid (Boxed w2 (w.heap.size + 1) 3 (.int .i64 i)) := Lib.hid (heap_keep K1.out ⟨hb2.os, hb2.tape, hb2.output, hb2.size, hb2.block⟩)
      clear hb2 hb2' hHeld B1 D1 K1 x0 x1
      by_cases n1 : prodL L ≤ i
      · have n1' : decide (prodL L ≤ i) = true := by simp [n1]
        have E : Hid (dnthE L k s h i = 4) := Lib.hid (by unfold dnthE; rw [if_pos C.out, if_neg (by omega)])
        go_wp2
        exact ⟨_, by simp [results, Try.results62, go_sem, *], _, _, rfl, B2.out, Lib.hid ⟨E.out.symm, Or.inr ⟨by omega, rfl⟩⟩⟩
      · have n1' : decide (prodL L ≤ i) = false := by simp [n1]
        have E : Hid (dnthE L k s h i = 0) := Lib.hid (by unfold dnthE; rw [if_pos C.out, if_pos (by omega)])
        have IB : Hid (0 ≤ i ∧ i < prodL L) := Lib.hid ⟨by omega, by omega⟩
        have x0 := D2.out.c0
        have ln := rk.out
        clear n0
        go_upto_region 6 with fail
        go_wp2_with (first | (at_make; refine wpList_make_full _ rfl (.tmp 27) (.tmp 27) 48 rfl (w.heap.size + 2) 3 i0 (.int .i64 0) 1 Try.underlying48 hi hz0 hz1 .i64 .i64 _ _ L.length rfl rfl rfl rfl ?c2 ?c3 ?c4 ?_))
        case c2 => first | omega | (rw [hz2]; omega)
        case c3 => unfold maxLen; omega
        case c4 => have := K2.out.lt; omega
        intro w3 own3 grow3
        have b3 : Below w2.heap.size w2 w3 := (Below.refl _ _).grown grow3 (Nat.le_refl _) (fun g hg => nomatch hg)
        have r3 : RowB w3 w2.heap.size (List.replicate L.length 0) := by
          refine RowB.of_own (n := L.length) (by omega) (base := w.heap.size + 2) ?_
          have e : (madeCells #[Value.int .i64 0] L.length).toList = (List.replicate L.length (0 : Int)).map (Value.int .i64) := by
            apply List.ext_getElem
            · simp [madeCells]
            · intro j h1 h2
              simp [madeCells, Nat.mod_one]
          rw [← e]; exact own3
        have q1 := K2.out.lt
        have q2 := r3.lt
        have W4 : Hid (FourW w b o L cap i w2.heap.size w3.heap.size ((w3.alloc (.cells #[.slice (some ⟨w2.heap.size, 0, none⟩) L.length L.length] 48)).alloc (.cells #[.slice (some ⟨b, o, none⟩) L.length cap] 40))) := Lib.hid (by
          have hb4 : Below w3.heap.size w3 ((w3.alloc (.cells #[.slice (some ⟨w2.heap.size, 0, none⟩) L.length L.length] 48)).alloc (.cells #[.slice (some ⟨b, o, none⟩) L.length cap] 40)) := ((Below.refl _ _).alloc (Nat.le_refl _) _).alloc (by simp) _
          have i4 := (Boxed.new w3 48 (.slice (some ⟨w2.heap.size, 0, none⟩) L.length L.length)).alloc (.cells #[.slice (some ⟨b, o, none⟩) L.length cap] 40)
          have n4 := heap_alloc_new (w3.alloc (.cells #[.slice (some ⟨w2.heap.size, 0, none⟩) L.length L.length] 48)) (.cells #[.slice (some ⟨b, o, none⟩) L.length cap] 40)
          have b4 := B2.out.trans ((b3.mono (by omega)).trans (hb4.mono (by omega)))
          refine ⟨b4, heap_keep (heap_keep K2.out b3) hb4, i4, heap_keep r3 hb4, by simpa using n4, fun j x hx => ?_, by simp, by omega, by omega⟩
          obtain ⟨p0, p1, p2⟩ := CA.out j x hx
          exact ⟨(b4.cell (p := ⟨b, o + j * 3, none⟩) hb).trans p0, (b4.cell (p := ⟨b, o + j * 3 + 1, none⟩) hb).trans p1, (b4.cell (p := ⟨b, o + j * 3 + 2, none⟩) hb).trans p2⟩)
        have x4 : (w3.alloc (.cells #[.slice (some ⟨w2.heap.size, 0, none⟩) L.length L.length] 48)).cell? ⟨w.heap.size, 0, none⟩ = some (.slice (some ⟨b, o, none⟩) L.length cap) := ((below_new _ _).cell (p := ⟨w.heap.size, 0, none⟩) (Nat.lt_of_lt_of_le D2.out.size b3.size)).trans ((b3.cell (p := ⟨w.heap.size, 0, none⟩) D2.out.size).trans x0)
        clear own3 grow3 b3 r3 x0
        go_upto_region 7 with fail
        have s4 : (w3.alloc (.cells #[.slice (some ⟨w2.heap.size, 0, none⟩) L.length L.length] 48)).heap.size = w3.heap.size + 1 := by simp
        generalize w3.alloc (.cells #[.slice (some ⟨w2.heap.size, 0, none⟩) L.length L.length] 48) = wA at *
        go_wp2_with fail
        refine (back_any _ _ _ _).mono ?_
        rintro e w' ⟨rfl, rfl⟩
        rw [s4]
        generalize wA.alloc (.cells #[.slice (some ⟨b, o, none⟩) L.length cap] 40) = w4 at *
        go_upto_block 0 with fail
        refine (wpIn_wide (n := 6)).1 ?_
        gi_wp2_with fail
        have hmx : Try.prog.follows .mixedOrders = true := by kernel_rfl
        clear HR B2 D2 K2 x4 s4
        clear wA
        generalize hrb : w2.heap.size = rb at *
        generalize hib : w3.heap.size = ib at *
        clear hrb hib q1 q2
        clear w2 w3
        have q1 := W4.out.klt
        have q2 := W4.out.rlt
        have q3 := W4.out.size
        have hI : OwnFrom w4.heap.size (nthI w L i rb ib (.cells #[.slice (some ⟨b, o, none⟩) L.length cap] 40 (0, 0))) := nthI_own (by omega)
        refine wpIn_rangeFunc_ownH (F := Fence.wide) rfl (by omega) (gf := 174) (lb := #[.pointer (some ⟨ib + 1, 0, none⟩)]) rfl trivial (enters_of Try.func174 (by kernel_rfl) rfl)
          (back_stops 5 (by omega) (ib + 1) w.heap.size b o cap L hb (by omega) w4 (by omega) (Lib.hid W4.out.bn) (Lib.hid W4.out.at3)) kn_trans ?kb (Below.refl _ _) (fun _ => rfl)
          (nthI w L i rb ib (.cells #[.slice (some ⟨b, o, none⟩) L.length cap] 40 (0, 0))) (fun _ _ _ => False) hI (fun _ _ _ _ _ hs _ _ => hs)
          ⟨W4.out.k, W4.out.row, W4.out.ix, W4.out.bn, W4.out.below⟩
          (fun x a' W => ∃ g, a' = { tmps := #[.agg #[.slice (some ⟨b, o, none⟩) L.length cap, .int .i64 k, .int .i64 s, .int .i64 h], .int .i64 i, .pointer (some ⟨w.heap.size, 0, none⟩), .pointer (some ⟨w.heap.size + 1, 0, none⟩), .slice none 0 0, .int .i64 0, .int .i64 (dchk L k s h), .pointer (some ⟨ib, 0, none⟩), .int .i64 (x.1.1 : Nat), .pointer (some ⟨g, 0, none⟩), undef, .agg #[.slice (some ⟨b, o, none⟩) L.length cap, .int .i64 k, .int .i64 s, .int .i64 h], .int .i64 (dchk L k s h), .int .i64 (dchk L k s h), .bool false, undef, .int .i64 i, .bool false, .bool false, .int .i64 i, .pointer (some ⟨w.heap.size, 0, none⟩), .slice (some ⟨b, o, none⟩) L.length cap, .int .i64 (prodL L), .bool false, .bool false, .pointer (some ⟨w.heap.size, 0, none⟩), .slice (some ⟨b, o, none⟩) L.length cap, .int .i64 L.length, .slice (some ⟨rb, 0, none⟩) L.length L.length, .pointer (some ⟨w.heap.size, 0, none⟩), .slice (some ⟨b, o, none⟩) L.length cap, .func (.func 174) #[] #[.pointer (some ⟨ib + 1, 0, none⟩)], .int .i64 (x.1.1 : Nat), .agg #[.int .i64 x.1.2.1, .int .i64 x.1.2.2.1, .int .i64 x.1.2.2.2], undef, undef, undef, undef, undef, undef, undef, undef, undef, undef, undef, undef, undef, undef, undef, undef, undef], defers := [] } ∧ W.heap[g]? = some (.cells #[.int .i64 x.1.2.1, .int .i64 x.1.2.2.1, .int .i64 x.1.2.2.2] 23 (0, 0)))
          (fun x a' _ X Y row ⟨g, e, h⟩ hg hr => ⟨g, e, heap_own g _ rfl () X Y row h hg (fun r e => (hr r e).2)⟩) ?assign ?body ?done ?stop
        case kb =>
          intro W l o o' hl hlo hc hw
          exact ⟨belowK_b (w := w4) (by omega) W l o o' hl hlo hc hw, World.putObj_heap_other (by omega)⟩
        case assign =>
          rintro l pre x W K hJ hK
          have HK := Lib.hid hK
          have HJ := Lib.hid hJ
          clear hK hJ
          gi_wp2
          have HJ' := HJ.out
          have sB := HJ'.2.2.2.1
          have lB := (Array.getElem?_eq_some_iff.1 sB).1
          exact HK.out _ _ ((KeepsOthers.alloc W _).from _) ⟨(Below.refl _ _).alloc HJ'.2.2.2.2.size _, Below.heap_alloc W _ _ lB⟩ (hI.alloc _ HJ') ⟨_, rfl, heap_alloc_new W _⟩
        case body =>
          rintro l pre ⟨⟨p, lo, hi', st⟩, hv⟩ a' W hl hrec hJ ⟨g, rfl, hg⟩ hlt
          have HJ := Lib.hid hJ
          have HG : Hid (W.heap[g]? = some (.cells #[.int .i64 lo, .int .i64 hi', .int .i64 st] 23 (0, 0))) := Lib.hid hg
          have HV : Hid (L[p]? = some (lo, hi', st)) := Lib.hid hv
          have ox : I64 lo ∧ I64 hi' ∧ I64 st := HL.out _ (List.mem_of_getElem? hv)
          have SP : Hid (1 ≤ siz lo hi' st) := Lib.hid (siz_pos_of (x := (lo, hi', st)) (by omega) (by have := IB.out; omega) (List.mem_of_getElem? hv))
          have pl : p < L.length := (List.getElem?_eq_some_iff.1 hv).1
          have SL : Hid ((stP L.length i (pre.map (·.1))).2.length = L.length) := Lib.hid (stP_len _ _ _)
          have SB : Hid (0 ≤ (stP L.length i (pre.map (·.1))).1 ∧ (stP L.length i (pre.map (·.1))).1 ≤ 4000004000001) := Lib.hid (by have := stP_bd L.length IB.out.1 (pre.map (·.1)); have := prodL_bd L; have := IB.out; omega)
          have sS := siz_bdA lo hi' st
          clear hJ hg hrec
          dsimp only
          have g3 := row3 HG.out
          have g0 := g3.1
          have g1 := g3.2.1
          have g2 := g3.2.2
          clear g3
          have KB := HJ.out.1
          have RB := HJ.out.2.1
          have XB := HJ.out.2.2.1
          generalize hkv : (stP L.length i (pre.map (·.1))).1 = kv at KB SB
          generalize hrw : (stP L.length i (pre.map (·.1))).2 = R at RB SL
          have HKV := Lib.hid hkv
          have HRW := Lib.hid hrw
          have KB := Lib.hid KB
          have RB := Lib.hid RB
          have XB := Lib.hid XB
          have sp := SP.out
          have kb := SB.out
          clear hkv hrw
          gi_wp2_with fail
          refine ⟨trivial, (CallsIn.inRound l (callsIn_wide.2 (Size_any lo hi' st W ox.1 ox.2.1 ox.2.2))).mono ?_⟩
          rintro e w2 ⟨rfl, hb2⟩
          have HB2 := Lib.hid hb2
          have c7 := Boxed.cell (t := 48) (heap_keep XB.out hb2)
          have c1 := Boxed.cell (t := 3) (heap_keep KB.out hb2)
          have g3 := row3 (heap_keep HG.out hb2)
          have g0 := g3.1
          have g1 := g3.2.1
          have g2 := g3.2.2
          have r2 : Hid (RowB w2 rb R) := Lib.hid (heap_keep RB.out hb2)
          clear g3
          have BB := Lib.hid hb2
          clear hb2
          obtain ⟨y, hy⟩ : ∃ y, R[p]? = some y := ⟨R[p]'(by have := SL.out; omega), List.getElem?_eq_getElem _⟩
          have HY := Lib.hid hy
          have jr : kv.tmod (siz lo hi' st) = kv % siz lo hi' st := IntWalk.rem_in _ _ (by omega)
          have jq : IntKind.i64.wrap (kv.tdiv (siz lo hi' st)) = kv / siz lo hi' st := IntWalk.i64_quo _ _ ⟨by omega, by omega, by omega⟩
          clear hy
          have gr : g ≠ rb := fun e => by
            have h1 := HG.out
            rw [e, show W.heap[rb]? = _ from RB.out] at h1
            simp at h1
          have sn : ¬ siz lo hi' st = 0 := by omega
          gi_wp2_with fail
          refine wpIn_round_held (S := (fun w' => w'.cell? ⟨w.heap.size + 1, 0, none⟩ = some (.int .i64 kv) ∧ w'.cell? ⟨ib, 0, none⟩ = some (.slice (some ⟨rb, 0, none⟩) L.length L.length) ∧ w'.cell? ⟨g, 0, none⟩ = some (.int .i64 lo) ∧ w'.cell? ⟨g, 1, none⟩ = some (.int .i64 hi') ∧ w'.cell? ⟨g, 2, none⟩ = some (.int .i64 st))) hmx (by kernel_rfl) ?_ (fun hHeld => ?_)
          · first | exact hHeld | exact ⟨c1, c7, g0, g1, g2⟩ | (obtain ⟨q0, q1, q2, q3, q4⟩ := hHeld; refine ⟨?_, ?_, ?_, ?_, ?_⟩ <;> simp [go_sem, *]; done) | go_keep
          refine wpAnyH_take (i := 0) (oi := { dst := some 37, op := Op.load 48 (Operand.tmp 7), type := 48, pos := "domain.go:101", after := #[], guard := none }) (v := ?_) rfl (by kernel_rfl) (by kernel_rfl) (by kernel_rfl) (fun _ _ _ h => nomatch h.1) (Or.inl ⟨by rfl, ?_⟩) (by assumption) ?_
          rotate_left
          · (intro w hSw; (try dsimp only at hSw); go_simp; first | done | with_reducible rfl)
          try simp only [Act.put, List.setIfInBounds_toArray, List.set_cons_zero, List.set_cons_succ]
          refine wpAnyH_take (i := 1) (oi := { dst := some 38, op := Op.move (Operand.tmp 8), type := 3, pos := "domain.go:101", after := #[], guard := none }) (v := ?_) rfl (by kernel_rfl) (by kernel_rfl) (by kernel_rfl) (fun _ _ _ h => nomatch h.1) (Or.inl ⟨by rfl, ?_⟩) (by assumption) ?_
          rotate_left
          · (intro w hSw; (try dsimp only at hSw); go_simp; first | done | with_reducible rfl)
          try simp only [Act.put, List.setIfInBounds_toArray, List.set_cons_zero, List.set_cons_succ]
          refine wpAnyH_take (i := 2) (oi := { dst := some 39, op := Op.load 23 (Operand.tmp 9), type := 23, pos := "domain.go:101", after := #[], guard := none }) (v := ?_) rfl (by kernel_rfl) (by kernel_rfl) (by kernel_rfl) (fun _ _ _ h => nomatch h.1) (Or.inl ⟨by rfl, ?_⟩) (by assumption) ?_
          rotate_left
          · (intro w hSw; (try dsimp only at hSw); go_simp; first | done | with_reducible rfl)
          try simp only [Act.put, List.setIfInBounds_toArray, List.set_cons_zero, List.set_cons_succ]
          refine wpAnyH_take (i := 3) (oi := { dst := some 40, op := Op.load 3 (Operand.tmp 3), type := 3, pos := "domain.go:101", after := #[], guard := none }) (v := ?_) rfl (by kernel_rfl) (by kernel_rfl) (by kernel_rfl) (fun _ _ _ h => nomatch h.1) (Or.inl ⟨by rfl, ?_⟩) (by assumption) ?_
          rotate_left
          · (intro w hSw; (try dsimp only at hSw); go_simp; first | done | with_reducible rfl)
          try simp only [Act.put, List.setIfInBounds_toArray, List.set_cons_zero, List.set_cons_succ]
          refine wpAnyH_take (i := 4) (oi := { dst := some 41, op := Op.move (Operand.tmp 10), type := 3, pos := "domain.go:101", after := #[], guard := none }) (v := ?_) rfl (by kernel_rfl) (by kernel_rfl) (by kernel_rfl) (fun _ _ _ h => nomatch h.1) (Or.inl ⟨by rfl, ?_⟩) (by assumption) ?_
          rotate_left
          · (intro w hSw; (try dsimp only at hSw); go_simp; first | done | with_reducible rfl)
          try simp only [Act.put, List.setIfInBounds_toArray, List.set_cons_zero, List.set_cons_succ]
          refine wpAnyH_take (i := 5) (oi := { dst := some 42, op := Op.binOp BinOp.rem 3 (Operand.tmp 40) (Operand.tmp 41) 3, type := 3, pos := "domain.go:101", after := #[{ on := 3, ground := Ground.data }, { on := 4, ground := Ground.data }], guard := none }) (v := ?_) rfl (by kernel_rfl) (by kernel_rfl) (by kernel_rfl) (fun _ _ _ h => nomatch h.1) (Or.inl ⟨by rfl, ?_⟩) (by assumption) ?_
          rotate_left
          · (intro w hSw; (try dsimp only at hSw); go_simp; first | done | with_reducible rfl)
          try simp only [Act.put, List.setIfInBounds_toArray, List.set_cons_zero, List.set_cons_succ]
          refine wpAnyH_ready (rs := [6]) (by kernel_rfl) (by simp) ?_
          refine AllReadyH.cons (o := { dst := some 43, op := Op.call { callee := Callee.value (Operand.func 20), args := #[Operand.tmp 39, Operand.tmp 42], argTypes := #[23, 3] }, type := 27, pos := "domain.go:101", after := #[{ on := 2, ground := Ground.data }, { on := 5, ground := Ground.data }], guard := none }) rfl (fun K hK => ?_) AllReadyH.nil
          go_simp
          refine (Nth_any lo hi' st _ _ ox.1 ox.2.1 ox.2.2).mono ?_
          rintro e w3 ⟨rfl, hb3'⟩
          have hb3 : Below w2.heap.size w2 w3 := ⟨hb3'.os, hb3'.tape, hb3'.output, hb3'.size, hb3'.block⟩
          have B3 := Lib.hid (BB.out.trans (hb3.mono BB.out.size))
          have d7 := Boxed.cell (t := 48) (heap_keep XB.out B3.out)
          have d1 := Boxed.cell (t := 3) (heap_keep KB.out B3.out)
          have d3 := row3 (heap_keep HG.out B3.out)
          have r3 : Hid (RowB w3 rb R) := Lib.hid (heap_keep RB.out B3.out)
          have e0 := r3.out.cell HY.out
          have e1 := r3.out.frozen p
          clear hb3 hb3'
          go_wp2_with fail
          refine hK.out _ _ ?_ (fun hHeld6 => ?_)
          · exact ⟨d1, d7, d3.1, d3.2.1, d3.2.2⟩
          clear hK K hHeld
          have hHeld := hHeld6
          clear hHeld6
          try simp only [Act.put, List.setIfInBounds_toArray, List.set_cons_zero, List.set_cons_succ]
          refine wpAnyH_take (i := 7) (oi := { dst := some 36, op := Op.move (Operand.tmp 43), type := 27, pos := "domain.go:101", after := #[{ on := 6, ground := Ground.data }], guard := none }) (v := ?_) rfl (by kernel_rfl) (by kernel_rfl) (by kernel_rfl) (fun _ _ _ h => nomatch h.1) (Or.inl ⟨by rfl, ?_⟩) (by assumption) ?_
          rotate_left
          · (intro w hSw; (try dsimp only at hSw); go_simp; first | done | with_reducible rfl)
          try simp only [Act.put, List.setIfInBounds_toArray, List.set_cons_zero, List.set_cons_succ]
          refine wpAnyH_take (i := 8) (oi := { dst := some 44, op := Op.extract (Operand.tmp 36) 0, type := 3, pos := "domain.go:101", after := #[{ on := 7, ground := Ground.data }], guard := none }) (v := ?_) rfl (by kernel_rfl) (by kernel_rfl) (by kernel_rfl) (fun _ _ _ h => nomatch h.1) (Or.inl ⟨by rfl, ?_⟩) (by assumption) ?_
          rotate_left
          · (intro w hSw; (try dsimp only at hSw); go_simp; first | done | with_reducible rfl)
          try simp only [Act.put, List.setIfInBounds_toArray, List.set_cons_zero, List.set_cons_succ]
          refine wpAnyH_take (i := 9) (oi := { dst := some 45, op := Op.extract (Operand.tmp 36) 1, type := 24, pos := "domain.go:101", after := #[{ on := 7, ground := Ground.data }, { on := 11, ground := Ground.gcOnly Departure.lateStores }], guard := none }) (v := ?_) rfl (by kernel_rfl) (by kernel_rfl) (by kernel_rfl) (fun _ _ _ h => nomatch h.1) (Or.inl ⟨by rfl, ?_⟩) (by assumption) ?_
          rotate_left
          · (intro w hSw; (try dsimp only at hSw); go_simp; first | done | with_reducible rfl)
          try simp only [Act.put, List.setIfInBounds_toArray, List.set_cons_zero, List.set_cons_succ]
          refine wpAnyH_take (i := 10) (oi := { dst := some 46, op := Op.indexAddr 48 (Operand.tmp 37) (Operand.tmp 38), type := 0, pos := "domain.go:101", after := #[{ on := 0, ground := Ground.data }, { on := 1, ground := Ground.data }, { on := 0, ground := Ground.phase }, { on := 1, ground := Ground.phase }, { on := 2, ground := Ground.phase }, { on := 3, ground := Ground.phase }, { on := 4, ground := Ground.phase }, { on := 5, ground := Ground.phase }, { on := 6, ground := Ground.phase }, { on := 7, ground := Ground.phase }, { on := 8, ground := Ground.phase }, { on := 9, ground := Ground.textOnly Departure.lateStores }], guard := none }) (v := ?_) rfl (by kernel_rfl) (by kernel_rfl) (by kernel_rfl) (fun _ _ _ h => nomatch h.1) (Or.inl ⟨by rfl, ?_⟩) (by assumption) ?_
          rotate_left
          · (intro w hSw; (try dsimp only at hSw); go_simp; first | done | with_reducible rfl)
          try simp only [Act.put, List.setIfInBounds_toArray, List.set_cons_zero, List.set_cons_succ]
          refine wpAnyH_ready (rs := [11]) (by kernel_rfl) (by simp) ?_
          refine AllReadyH.cons (o := { dst := none, op := Op.store 3 (Operand.tmp 46) (Operand.tmp 44), type := 0, pos := "domain.go:101", after := #[{ on := 10, ground := Ground.data }, { on := 8, ground := Ground.data }, { on := 6, ground := Ground.chain }, { on := 0, ground := Ground.phase }, { on := 1, ground := Ground.phase }, { on := 2, ground := Ground.phase }, { on := 3, ground := Ground.phase }, { on := 4, ground := Ground.phase }, { on := 5, ground := Ground.phase }, { on := 6, ground := Ground.phase }, { on := 7, ground := Ground.phase }, { on := 8, ground := Ground.phase }, { on := 9, ground := Ground.textOnly Departure.lateStores }], guard := none }) rfl (fun K hK => ?_) AllReadyH.nil
          go_simp
          refine hK.out _ _ ?_ (fun hHeld11 => ?_)
          · first | exact hHeld | exact ⟨c1, c7, g0, g1, g2⟩ | (obtain ⟨q0, q1, q2, q3, q4⟩ := hHeld; refine ⟨?_, ?_, ?_, ?_, ?_⟩ <;> simp [go_sem, *]; done) | go_keep
          clear hK K hHeld
          have hHeld := hHeld11
          clear hHeld11
          try simp only [Act.put, List.setIfInBounds_toArray, List.set_cons_zero, List.set_cons_succ]
          refine wpAnyH_done (by kernel_rfl) ?_ _
          refine ⟨rfl, ?_⟩

          have hk1 := hHeld.1
          have fz := Boxed.frozen (t := 3) (heap_keep KB.out B3.out)
          have q4 := HJ.out.2.2.2.2.size
          clear hHeld d7 d1 d3 e0 e1
          gi_wp2
          obtain ⟨n1', n2', n3, n4⟩ := nth_round (n₀ := w.heap.size) (p := p) (kv' := kv / siz lo hi' st) (u := nthN lo hi' st (kv % siz lo hi' st)) KB.out RB.out (by omega) HJ.out.2.2.2.1 (by omega) (by omega) q4 (by omega) (by omega) B3.out
          refine ⟨n1'.from _, n2', ?_, ?_, ?_, ?_, HJ.out.2.2.2.2.trans n2'.1⟩
          · rw [List.map_append, List.map_singleton, stP_snoc, nthStep, HKV.out]; exact n3
          · rw [List.map_append, List.map_singleton, stP_snoc, nthStep, HKV.out, HRW.out]; exact n4
          · exact boxed_else ((Below.heap_setCell w3 ⟨rb, p, none⟩ _ ib (show ib ≠ rb by omega)).trans (heap_keep XB.out B3.out)) (by omega)
          · exact n2'.2.trans HJ.out.2.2.2.1
        case done =>
          rintro D xs W hD hS hJ hK
          have HJ := Lib.hid hJ
          have HK := Lib.hid hK
          have HS : Hid ((stP L.length i (xs.map (·.1))).2 = idxL L i) := Lib.hid (by rw [hS]; rfl)
          have x7 := hJ.2.2.1.cell
          clear hJ hS hK
          go_wp2
          have HJ' := HJ.out
          refine ⟨by simp, .inl ⟨_, _, rfl, run_takeDeferred HK.out, ?_⟩⟩
          refine ⟨.tuple #[.slice (some ⟨rb, 0, none⟩) L.length L.length, .int .i64 0], by simp [results, Try.results62, go_sem, *], _, _, rfl, HJ'.2.2.2.2.trans (belowK_b (w := w4) (by omega) W D _ _ hD HK.out rfl rfl), Lib.hid ⟨E.out.symm, Or.inl ⟨rfl, ?_⟩⟩⟩
          have r := RowB.own (base := w.heap.size) HJ'.2.1 (by omega) (stP_len _ _ _) (by unfold maxLen; omega)
          rw [HS.out] at r
          rw [idxL_len]
          exact ownsRow_putObj r _ HK.out rfl
        case stop =>
          rintro D c pre W _ _ h' _
          exact h'.elim
  · have c' : (dchk L k s h != 0) = true := by simp [c]
    have E : Hid (dnthE L k s h i = dchk L k s h) := Lib.hid (by unfold dnthE; rw [if_neg c])
    have C := Lib.hid c
    clear c
    go_wp2
    exact ⟨_, by simp [results, Try.results62, go_sem, *], _, _, rfl, B1.out, Lib.hid ⟨E.out.symm, Or.inr ⟨C.out, rfl⟩⟩⟩
end Go.Proofs.Ytmelknodmbdhpaa
