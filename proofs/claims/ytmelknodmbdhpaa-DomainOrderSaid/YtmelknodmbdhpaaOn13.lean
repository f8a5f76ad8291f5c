/-
  Part 13: AllC, AllD, RefH, RefI, PairC, DCA, SetM, MovC, MovM, PPA, PPB, DCB, DomP, RDN, PPC, LawWi, PPD, AllE.
-/
import Derived.Test.YtmelknodmbdhpaaOn1
import Derived.Test.YtmelknodmbdhpaaOn3
import Derived.Test.YtmelknodmbdhpaaOn4
import Derived.Test.YtmelknodmbdhpaaOn5
import Derived.Test.YtmelknodmbdhpaaOn6
import Derived.Test.YtmelknodmbdhpaaOn7
import Derived.Test.YtmelknodmbdhpaaOn8
import Derived.Test.YtmelknodmbdhpaaOn9
import Derived.Test.YtmelknodmbdhpaaOn10
import Derived.Test.YtmelknodmbdhpaaOn11
import Derived.Test.YtmelknodmbdhpaaOn12
import Derived.BigQuiet
import Derived.Deep.CutBlock
import Derived.Deep.DeepCutAuto
import Derived.Deep.DrawnRows
import Derived.Deep.LoopGhost
import Derived.Deep.QuietTactic
import Derived.Deep.RegionHeld3
import Derived.Deep.RegionWith
import Derived.Laws.Cover3
import Derived.Lib.Hide
import Derived.LoopIn
import Derived.LoopNIn
import Derived.Maps.AppendAt
import Derived.OwnWalk
import Derived.OwnWalkIn
import Derived.RangeFuncBound
import Derived.RangeFuncBox
import Derived.RangeFuncCalls
import Derived.RangeFuncLeaves
import Derived.RangeFuncNested
import Derived.Shelf.Abstract
import Derived.Shelf.RegionOpen
import Derived.TacticsInMore
import Derived.WalkKit
import Derived.WalkLawsBesides
import Derived.WalkSpells
namespace Go.Proofs.Ytmelknodmbdhpaa
open Go.RowKit Go.Shelf
attribute [local go_sem] Oper.semAt_some
theorem Try.infoPair : (Try.prog.info? 87).map (fun i => (i.zero, i.size, i.bytes)) = some (some (.agg #[.int .i64 0, .int .i64 0]), 2, 16) := by kernel_rfl
/-- the cells of pairs -/
def cells2 (l : List (Int × Int)) : List Value := l.flatMap fun p => [.int .i64 p.1, .int .i64 p.2]
theorem cells2_append (a b : List (Int × Int)) : cells2 (a ++ b) = cells2 a ++ cells2 b := by unfold cells2; rw [List.flatMap_append]
theorem numE_map (l : List (Int × Int)) : (numE l).map (·.2) = l := by
  unfold numE
  rw [List.map_map]
  exact List.zipIdx_map_fst 0 l
set_option maxRecDepth 4000 in
theorem eql_nil2 (f : Nat) (lb : Array Value) (w : World) : (binOp .eql 147 (.func (.func f) #[] lb) Value.nilFunc).run Try.prog w = .ok (.bool false) w := by
  unfold binOp
  simp only [Op.equal]
  have e : Op.maxDepth = 9999 + 1 := rfl
  rw [e, Op.equalIn]
  simp [go_sem]
theorem abides_row {X Y : World} {row : Option Nat} {M sz k : Nat} {e : TypeId} {v : Value} {xs : List Value} (h : X.ownsRow M e sz v k xs) (hg : X.grownBy Y row)
    (hr : ∀ r, row = some r → r < M ∨ ∃ o : Obj, X.heap[r]? = some o ∧ o.isCells = false) : Y.ownsRow M e sz v k xs := by
  refine ⟨h.1, h.2.imp id ?_⟩
  rintro ⟨g, cap, cur, e1, hb, hgb, rest⟩
  refine ⟨g, cap, cur, e1, hb, (hg.block g (Array.getElem?_eq_some_iff.1 hgb).1 (fun e' => ?_)).trans hgb, rest⟩
  rcases hr g e'.symm with h1 | ⟨o, ho, hc⟩
  · omega
  · rw [hgb] at ho; cases ho; cases hc
/-- what the append of a pair does -/
theorem app2 {W w1 : World} {ob M b0 : Nat} {v v' : Value} {k n : Nat} {xs ys : List Value} {tmp : Obj} (hv : Boxed W ob 83 v) (hrow : W.ownsRow M 87 2 v k xs) (hsz : M ≤ W.heap.size) (k1 : ob < b0) (k2 : b0 ≤ M)
    (hown' : w1.ownsRow M 87 2 v' n ys) (hgrow : (W.alloc tmp).grownBy w1 v.ownBlock) :
    Boxed w1 ob 83 v ∧ Boxed (w1.setCell ⟨ob, 0, none⟩ v') ob 83 v' ∧ (w1.setCell ⟨ob, 0, none⟩ v').ownsRow M 87 2 v' n ys ∧
      KeepsFrom b0 W (w1.setCell ⟨ob, 0, none⟩ v') ∧ LeavesIn (b0 + 2) M W (w1.setCell ⟨ob, 0, none⟩ v') ∧ ∀ g, g < M → g ≠ ob → (w1.setCell ⟨ob, 0, none⟩ v').heap[g]? = W.heap[g]? := by
  have low : ∀ j, v.ownBlock = some j → M ≤ j := fun j e => (hrow.lt j e).1
  have typ : ∀ j c t fr, v.ownBlock = some j → W.heap[j]? = some (.cells c t fr) → t = 87 := fun j c t fr ej hj => by
    rcases hrow.2 with ⟨rfl, _⟩ | ⟨g, cap, cur, rfl, _, hgb, _⟩
    · simp [Value.ownBlock] at ej
    · obtain rfl : g = j := by simpa [Value.ownBlock] using ej
      rw [hgb] at hj; cases hj; rfl
  have cel : ∀ j o, v.ownBlock = some j → W.heap[j]? = some o → o.isCells = true := fun j o ej hj => by
    rcases hrow.2 with ⟨rfl, _⟩ | ⟨g, cap, cur, rfl, _, hgb, _⟩
    · simp [Value.ownBlock] at ej
    · obtain rfl : g = j := by simpa [Value.ownBlock] using ej
      rw [hgb] at hj; cases hj; rfl
  have blk : ∀ j, j < W.heap.size → some j ≠ v.ownBlock → w1.heap[j]? = W.heap[j]? := fun j lt ne => (hgrow.block j (by simp; omega) ne).trans (Below.heap_alloc W tmp j lt)
  have v1 : Boxed w1 ob 83 v := (blk ob (by omega) (fun e => by have := low ob e.symm; omega)).trans hv
  have sz : W.heap.size ≤ (w1.setCell ⟨ob, 0, none⟩ v').heap.size := by have := hgrow.size; simp at this ⊢; omega
  have kf : ∀ B, ob < B → KeepsFrom B W (w1.setCell ⟨ob, 0, none⟩ v') := fun B hB => ⟨sz, fun j o hj h0 ho => (Below.heap_setCell w1 ⟨ob, 0, none⟩ v' j (show j ≠ ob by omega)).trans ((blk j (Array.getElem?_eq_some_iff.1 h0).1 (fun e => by
    have := cel j o e.symm h0
    rw [ho] at this; cases this)).trans h0)⟩
  have oth : ∀ g, g < M → g ≠ ob → (w1.setCell ⟨ob, 0, none⟩ v').heap[g]? = W.heap[g]? := fun g h1 h2 => (Below.heap_setCell w1 ⟨ob, 0, none⟩ v' g h2).trans (blk g (by omega) (fun e => by have := low g e.symm; omega))
  refine ⟨v1, v1.set v', ownsRow_setCell_below hown' (show ob < M by omega) _, kf b0 k1, ⟨kf _ (by omega), fun g h1 h2 => oth g h2 (by omega), ?_⟩, oth⟩
  intro j c t fr ht hj
  have lt := (Array.getElem?_eq_some_iff.1 hj).1
  refine (Below.heap_setCell w1 ⟨ob, 0, none⟩ v' j (fun e => ?_)).trans ((blk j lt (fun e => ?_)).trans hj)
  · rw [e, show W.heap[ob]? = _ from hv] at hj
    cases hj; rcases ht with ht | ht <;> revert ht <;> decide
  · have := typ j c t fr e.symm hj
    subst this; rcases ht with ht | ht <;> revert ht <;> decide
/-- the law's blocks between two rounds -/
structure OutI (w : World) (ob : Nat) (M : Nat) (pre : List (Nat × Int × Int)) (W : World) : Prop where
  row : ∃ v, Boxed W ob 83 v ∧ W.ownsRow M 87 2 v pre.length (cells2 (pre.map (·.2)))
  r2 : Boxed W (w.heap.size + 1) 83 (.slice none 0 0)
  r3 : Boxed W (w.heap.size + 1 + 1) 4 (.bool false)
  below : Below w.heap.size w W
  size : M ≤ W.heap.size
theorem OutI.grown {w : World} {ob B M : Nat} {pre : List (Nat × Int × Int)} {W W' : World} {row : Option Nat} (t : OutI w ob M pre W) (hB : w.heap.size + 3 ≤ B) (ho : ob < B) (hg : W.grownBy W' row)
    (hr : ∀ r, row = some r → B ≤ r ∧ (r < M ∨ ∃ o : Obj, W.heap[r]? = some o ∧ o.isCells = false)) : OutI w ob M pre W' := by
  have ne : ∀ k, k < B → some k ≠ row := fun k h e => by have := (hr k e.symm).1; omega
  have kp : ∀ (k : Nat) (o : Obj), k < B → W.heap[k]? = some o → W'.heap[k]? = some o := fun k o h h0 => (hg.block k (Array.getElem?_eq_some_iff.1 h0).1 (ne k h)).trans h0
  refine ⟨?_, kp _ _ (by omega) t.r2, kp _ _ (by omega) t.r3, t.below.trans ⟨hg.os, hg.tape, hg.output, hg.size, fun k hk => hg.block k (by have := t.below.size; omega) (ne k (by omega))⟩, Nat.le_trans t.size hg.size⟩
  obtain ⟨v, hv, ho'⟩ := t.row
  exact ⟨v, kp _ _ ho hv, abides_row ho' hg (fun r e => (hr r e).2)⟩
/-- what the laws' All returns -/
def AllRet (l : List (Int × Int)) (w : World) : Ending → World → Prop := fun e w' => ∃ v, e = .returned (.tuple #[v, .bool true]) ∧ Hid (w'.ownsRow w.heap.size 87 2 v l.length (cells2 l)) ∧ Below w.heap.size w w'
set_option maxRecDepth 100000 in
set_option maxHeartbeats 6400000 in
theorem lawAll_gen (dv : Value) (k s h : Int) (w : World) (EL : List (Int × Int)) (hseq : Hid (∀ W, Below w.heap.size w W → ∀ Bn, W.heap[Bn]? = some (.cells #[dv, .int .i64 k, .int .i64 s, .int .i64 h] 62 (0, 0)) →
      SeqMoves Fence.wide 25 Try.prog 179 #[.pointer (some ⟨Bn, 0, none⟩)] (fun x : Nat × Int × Int => #[Value.int .i64 (x.1 : Nat), .agg #[.int .i64 x.2.1, .int .i64 x.2.2]]) (fun xs => xs = numE EL) (fun pre x => x.1 = pre.length ∧ pre.length < 500) W)) :
    Calls Try.prog 92 #[.agg #[dv, .int .i64 k, .int .i64 s, .int .i64 h]] w (AllRet EL w) := by
  obtain ⟨i0, hi, hz0, hz1, hz2⟩ := info_parts Try.infoPair
  refine (callsIn_wide (n := 26)).1 ?_
  refine callsIn_of_wp_marks Try.func92 rfl trivial ?_ rfl
  simp only [Try.ntmps92, List.size_toArray, List.length_cons, List.length_nil, Nat.reduceAdd, Nat.reduceSub, Array.replicate_succ, Array.replicate_zero, List.push_toArray, List.append_toArray, List.nil_append, List.cons_append]
  gi_wp2_with fail
  refine ⟨trivial, ?_⟩
  refine (all2_in _ _ _ _ _ _).mono ?_
  rintro e w' ⟨rfl, rfl⟩
  simp only [World.size_alloc]
  have r2 := at_alloc (at_alloc (at_alloc (heap_alloc_new (w.alloc (.cells #[dv, .int .i64 k, .int .i64 s, .int .i64 h] 62)) (.cells #[.slice none 0 0] 83)) (.cells #[.bool false] 4)) (.cells #[.slice none 0 0] 83)) (.cells #[dv, .int .i64 k, .int .i64 s, .int .i64 h] 62)
  have r3 := at_alloc (at_alloc (heap_alloc_new ((w.alloc (.cells #[dv, .int .i64 k, .int .i64 s, .int .i64 h] 62)).alloc (.cells #[.slice none 0 0] 83)) (.cells #[.bool false] 4)) (.cells #[.slice none 0 0] 83)) (.cells #[dv, .int .i64 k, .int .i64 s, .int .i64 h] 62)
  have o5 := at_alloc (heap_alloc_new (((w.alloc (.cells #[dv, .int .i64 k, .int .i64 s, .int .i64 h] 62)).alloc (.cells #[.slice none 0 0] 83)).alloc (.cells #[.bool false] 4)) (.cells #[.slice none 0 0] 83)) (.cells #[dv, .int .i64 k, .int .i64 s, .int .i64 h] 62)
  have cb := heap_alloc_new ((((w.alloc (.cells #[dv, .int .i64 k, .int .i64 s, .int .i64 h] 62)).alloc (.cells #[.slice none 0 0] 83)).alloc (.cells #[.bool false] 4)).alloc (.cells #[.slice none 0 0] 83)) (.cells #[dv, .int .i64 k, .int .i64 s, .int .i64 h] 62)
  simp only [World.size_alloc] at r2 r3 o5 cb
  have B5 : Hid (Below w.heap.size w (((((w.alloc (.cells #[dv, .int .i64 k, .int .i64 s, .int .i64 h] 62)).alloc (.cells #[.slice none 0 0] 83)).alloc (.cells #[.bool false] 4)).alloc (.cells #[.slice none 0 0] 83)).alloc (.cells #[dv, .int .i64 k, .int .i64 s, .int .i64 h] 62))) := Lib.hid (((((below_new w _).alloc (by simp) _).alloc (by simp; omega) _).alloc (by simp; omega) _).alloc (by simp; omega) _)
  have s5 : w.heap.size + 5 ≤ (((((w.alloc (.cells #[dv, .int .i64 k, .int .i64 s, .int .i64 h] 62)).alloc (.cells #[.slice none 0 0] 83)).alloc (.cells #[.bool false] 4)).alloc (.cells #[.slice none 0 0] 83)).alloc (.cells #[dv, .int .i64 k, .int .i64 s, .int .i64 h] 62)).heap.size := by simp
  have R2 := Lib.hid r2
  have R3 := Lib.hid r3
  have O5 := Lib.hid o5
  have CB := Lib.hid cb
  clear r2 r3 o5 cb
  generalize ((((w.alloc (.cells #[dv, .int .i64 k, .int .i64 s, .int .i64 h] 62)).alloc (.cells #[.slice none 0 0] 83)).alloc (.cells #[.bool false] 4)).alloc (.cells #[.slice none 0 0] 83)).alloc (.cells #[dv, .int .i64 k, .int .i64 s, .int .i64 h] 62) = w5 at *
  have nn := eql_nil2 179 #[.pointer (some ⟨w.heap.size + 1 + 1 + 1 + 1, 0, none⟩)]
  gi_wp2_with fail
  clear nn
  refine wpIn_range_moves (F := Fence.wide) rfl (by omega) (gf := 179) (lb := #[.pointer (some ⟨w.heap.size + 1 + 1 + 1 + 1, 0, none⟩)]) rfl trivial (enters_of Try.func179 (by kernel_rfl) rfl)
    (fun W hW => hseq.out W (B5.out.trans (hW.mono B5.out.size)) (w.heap.size + 1 + 1 + 1 + 1) (heap_keep CB.out hW)) (fun _ => rfl)
    (fun M pre W => OutI w (w.heap.size + 1 + 1 + 1) M pre W ∧ w5.heap.size ≤ M)
    (fun M s X Y row t hg hr => ⟨t.1.grown (B := w5.heap.size) (by omega) (by omega) hg hr, t.2⟩)
    (fun W' hW => ⟨⟨⟨_, heap_keep O5.out hW, World.ownsRow_nil _ _ _ _⟩, heap_keep R2.out hW, heap_keep R3.out hW, B5.out.trans (hW.mono B5.out.size), Nat.le_refl _⟩, hW.size⟩)
    ?round ?done
  case done =>
    rintro D M xs W hD rfl ⟨hi, hM⟩ hK
    have HI := Lib.hid hi
    obtain ⟨v, hv, hrow⟩ := hi.row
    obtain ⟨ao, cp, rfl⟩ := owns_slice hrow
    have hK3 : ((W.setCell ⟨w.heap.size + 1, 0, none⟩ (.slice ao (numE EL).length cp)).setCell ⟨w.heap.size + 1 + 1, 0, none⟩ (.bool true)).heap[D]? = some (.deferred (some [])) :=
      (Below.heap_setCell _ ⟨w.heap.size + 1 + 1, 0, none⟩ _ D (show D ≠ w.heap.size + 1 + 1 by omega)).trans ((Below.heap_setCell _ ⟨w.heap.size + 1, 0, none⟩ _ D (show D ≠ w.heap.size + 1 by omega)).trans hK)
    have HK := Lib.hid hK3
    have HV := Lib.hid hv
    have HO := Lib.hid hrow
    have c0 := hv.cell
    have c2 := hi.r2.cell
    have f2 := hi.r2.frozen
    have c3 := hi.r3.cell
    have f3 := hi.r3.frozen
    clear hi hK hv hrow hK3
    gi_wp2
    refine ⟨by simp, .inl ⟨_, _, rfl, run_takeDeferred HK.out, ?_⟩⟩
    have e2 : Boxed (((W.setCell ⟨w.heap.size + 1, 0, none⟩ (.slice ao (numE EL).length cp)).setCell ⟨w.heap.size + 1 + 1, 0, none⟩ (.bool true)).putObj D (.deferred none)) (w.heap.size + 1) 83 (.slice ao (numE EL).length cp) :=
      (World.putObj_heap_other (show w.heap.size + 1 ≠ D by omega)).trans ((Below.heap_setCell _ ⟨w.heap.size + 1 + 1, 0, none⟩ _ (w.heap.size + 1) (show w.heap.size + 1 ≠ w.heap.size + 1 + 1 by omega)).trans (HI.out.r2.set _))
    have e3 : Boxed (((W.setCell ⟨w.heap.size + 1, 0, none⟩ (.slice ao (numE EL).length cp)).setCell ⟨w.heap.size + 1 + 1, 0, none⟩ (.bool true)).putObj D (.deferred none)) (w.heap.size + 1 + 1) 4 (.bool true) :=
      (World.putObj_heap_other (show w.heap.size + 1 + 1 ≠ D by omega)).trans (Boxed.set (v := .bool false) _ ((Below.heap_setCell W ⟨w.heap.size + 1, 0, none⟩ _ (w.heap.size + 1 + 1) (show w.heap.size + 1 + 1 ≠ w.heap.size + 1 by omega)).trans HI.out.r3))
    have g2 := e2.cell
    have g3 := e3.cell
    have O1 : (W.setCell ⟨w.heap.size + 1, 0, none⟩ (.slice ao (numE EL).length cp)).ownsRow M 87 2 _ _ _ := ownsRow_setCell_below HO.out (show w.heap.size + 1 < M by omega) _
    have O2 : ((W.setCell ⟨w.heap.size + 1, 0, none⟩ (.slice ao (numE EL).length cp)).setCell ⟨w.heap.size + 1 + 1, 0, none⟩ (.bool true)).ownsRow M 87 2 _ _ _ := ownsRow_setCell_below O1 (show w.heap.size + 1 + 1 < M by omega) _
    have O3 := ownsRow_putObj O2 (.deferred none) HK.out rfl
    have E : (numE EL).length = EL.length := numE_len _
    have E2 : (numE EL).map (·.2) = EL := numE_map _
    rw [E2] at O3
    have bw := ((HI.out.below.setCell (p := ⟨w.heap.size + 1, 0, none⟩) (show w.heap.size ≤ w.heap.size + 1 by omega) (.slice ao (numE EL).length cp)).setCell (p := ⟨w.heap.size + 1 + 1, 0, none⟩) (show w.heap.size ≤ w.heap.size + 1 + 1 by omega) (.bool true))
    refine ⟨.tuple #[.slice ao (numE EL).length cp, .bool true], by simp [results, Try.results92, go_sem, g2, g3], _, rfl, Lib.hid ?_, bw.trans (belowK_b (w := w) (Nat.le_refl _) _ D _ _ (by omega) HK.out rfl rfl)⟩
    rw [E] at O3 ⊢
    exact owns_base O3 (by omega)
  case round =>
    rintro M l pre ⟨kk, xa, xb⟩ W' hl ⟨r, hlr⟩ ⟨hi, hM⟩ ⟨hx, hlt⟩
    dsimp only at hx
    subst hx
    have llt : l < W'.heap.size := (Array.getElem?_eq_some_iff.1 hlr).1
    have HI := Lib.hid hi
    clear hi hlr
    have sM := HI.out.size
    gi_wp2
    refine ⟨(KeepsOthers.alloc _ _).from _, ⟨(KeepsOthers.alloc _ _).from _, fun g _ h => Below.heap_alloc W' _ g (by omega), fun _ _ _ _ _ h => at_alloc h _⟩, ⟨HI.out.grown (B := w5.heap.size) (by omega) (by omega) (World.grownBy_alloc _ _ none) (fun r e => by cases e), hM⟩, ?_⟩
    intro W2 hg ⟨hi2, _⟩ _
    have hx2 : W2.heap[W'.heap.size]? = some (.cells #[.int .i64 xa, .int .i64 xb] 87 (0, 0)) := (hg.block _ (by simp) (fun e => by cases e; omega)).trans (heap_alloc_new W' _)
    have sW2 : W'.heap.size < W2.heap.size := (Array.getElem?_eq_some_iff.1 hx2).1
    have x0 : W2.cell? ⟨W'.heap.size, 0, none⟩ = some (.int .i64 xa) := by simp [World.cell?, hx2]
    have x1 : W2.cell? ⟨W'.heap.size, 1, none⟩ = some (.int .i64 xb) := by simp [World.cell?, hx2]
    obtain ⟨v, hv, hrow⟩ := hi2.row
    obtain ⟨ao, cp, rfl⟩ := owns_slice hrow
    have HV := Lib.hid hv
    have HO := Lib.hid hrow
    have H2 := Lib.hid hi2
    have c0 := hv.cell
    have f0 := hv.frozen
    have lk : (pre.length : Int) ≤ 499 := by omega
    have lk2 : decide ((500 : Int) < (pre.length : Int)) = false := by simp; omega
    clear hv hrow hi2 hg hx2 hlt
    have sz2 : w.heap.size + 5 ≤ W2.heap.size ∧ M ≤ W2.heap.size := ⟨by omega, H2.out.size⟩
    gi_wp2_with (gi_at_builtin; refine wpListIn_append_own _ rfl (.tmp 23) (.tmp 25) 83 rfl M 87 i0 (.agg #[.int .i64 0, .int .i64 0]) 2 16 Try.underlying83 hi hz0 hz1 hz2 rfl (by decide) _ _ _ rfl (HO.out.alloc _) ⟨W2.heap.size, 0, none⟩ 1 1 (cells2 [(xa, xb)]) rfl rfl (World.news_of_block (cs := #[.int .i64 xa, .int .i64 xb]) (t := 87) (fr := (0, 0)) (heap_alloc_new W2 _)) (by intro u hu; simp [cells2] at hu; rcases hu with rfl | rfl <;> rfl) (by unfold maxLen; omega) (by omega) (by simp; omega) ?_; intro v' w1 own' grow' _; obtain ⟨g', cap', rfl⟩ := ownsRow_succ own'; have AP := Lib.hid (app2 HV.out HO.out sz2.2 (b0 := w5.heap.size) (by omega) hM own' grow'); have BP := Lib.hid (Below.setCell (((Below.refl w.heap.size W2).alloc (by omega) (.cells #[.int .i64 xa, .int .i64 xb] 87)).grown grow' (by simp; omega) (fun j ej => by have := (HO.out.lt j ej).1; omega)) (p := ⟨w.heap.size + 1 + 1 + 1, 0, none⟩) (show w.heap.size ≤ w.heap.size + 1 + 1 + 1 by omega) (.slice (some ⟨g', 0, none⟩) (pre.length + 1) cap')); clear own' grow'; have c1 := AP.out.1.cell; have f1 := AP.out.1.frozen)
    have ap := AP.out
    refine ⟨ap.2.2.2.1, ap.2.2.2.2.1, ⟨⟨_, ap.2.1, ?_⟩, (ap.2.2.2.2.2 _ (by omega) (by omega)).trans H2.out.r2, (ap.2.2.2.2.2 _ (by omega) (by omega)).trans H2.out.r3, H2.out.below.trans BP.out, Nat.le_trans sz2.2 ap.2.2.2.1.size⟩, hM⟩
    rw [List.map_append, cells2_append, List.length_append]
    exact ap.2.2.1
theorem SeqMoves.weak {α : Type} {F : Fence} {n : Nat} {P : Program} {g : Nat} {lb : Array Value} {encs : α → Array Value} {S : List α → Prop} {T T' : List α → α → Prop} {W : World} (h : SeqMoves F n P g lb encs S T W) (ht : ∀ pre x, T pre x → T' pre x) : SeqMoves F n P g lb encs S T' W :=
  fun l J hJ hY h0 => h l J hJ (fun M pre x W1 hj t => hY M pre x W1 hj (ht pre x t)) h0
theorem lawAll_any (dv : Value) (L : List R3) (k s h : Int) (w : World) (hr : Rd w dv L) (hL : Ok3 L) (c : dchk L k s h = 0) (p5 : prodL L ≤ 500) :
    Calls Try.prog 92 #[.agg #[dv, .int .i64 k, .int .i64 s, .int .i64 h]] w (AllRet (domE L) w) := by
  refine lawAll_gen dv k s h w (domE L) (Lib.hid fun W hW Bn hB => ?_)
  by_cases pz : prodL L = 0
  · have e : domE L = [] := by
      have f := dim_facts c
      have hl : (domE L).length = 0 := by
        unfold domE
        rw [flatE_len]
        unfold numsL
        rw [numsU_length, numsU_length]
        have m := f.2.2.2.2
        rw [pz] at m
        rcases Int.mul_eq_zero.1 m with z | z <;> rw [z] <;> simp
      exact List.eq_nil_of_length_eq_zero hl
    rw [e]
    exact dall_none 25 Bn dv L k s h W (hr.keep hW) hL hB (by unfold dsiz; rw [if_pos c, pz]) _
  · exact (dall_moves 25 (by omega) Bn dv L k s h W (hr.keep hW) hL hB c pz).weak fun pre x t => ⟨t.1, by have := t.2; have := prodL_bd L; omega⟩
theorem domE_len {L : List R3} {k s h : Int} (c : dchk L k s h = 0) : ((domE L).length : Int) = prodL L := by
  have f := dim_facts c
  unfold domE
  rw [flatE_len]
  unfold numsL
  rw [numsU_length, numsU_length, ← f.2.2.2.2]
  have a := (siz_bdn f.2.2.1).1
  have b := (siz_bdn f.2.2.2.1).1
  rw [Int.natCast_mul, Int.toNat_of_nonneg a, Int.toNat_of_nonneg b]
end Go.Proofs.Ytmelknodmbdhpaa
namespace Go.Proofs.Ytmelknodmbdhpaa
open Go.RowKit
/-- the order of two numbers -/
def cmpI (a b : Int) : Int := if a < b then -1 else if b < a then 1 else 0
/-- the order of two lists, number by number -/
def cmpL : List Int → List Int → Int
  | [], [] => 0
  | [], _ :: _ => -1
  | _ :: _, [] => 1
  | a :: l, b :: m => if cmpI a b = 0 then cmpL l m else cmpI a b
theorem isNaN_any (a : Int) (w : World) : Calls Try.prog 180 #[.int .i64 a] w fun e w' => e = .returned (.bool false) ∧ w = w' := by
  go_enter Try.func180, Try.ntmps180
  go_wp2
  exact bodyPost_ret (v := .bool false) (by simp [results, Try.results180, go_sem, *]) rfl ⟨rfl, rfl⟩
theorem cmpI_any (a b : Int) (w : World) : Calls Try.prog 157 #[.int .i64 a, .int .i64 b] w fun e w' => e = .returned (.int .i64 (cmpI a b)) ∧ w = w' := by
  go_enter Try.func157, Try.ntmps157
  go_wp2_with fail
  refine (isNaN_any a _).mono ?_
  rintro e w' ⟨rfl, rfl⟩
  go_wp2_with fail
  refine (isNaN_any b _).mono ?_
  rintro e w' ⟨rfl, rfl⟩
  by_cases h : a < b
  · have d1 : decide (a < b) = true := by simp [h]
    have E : Hid (cmpI a b = -1) := Lib.hid (if_pos h)
    go_wp2
    exact bodyPost_ret (v := .int .i64 (-1)) (by simp [results, Try.results157, go_sem, *]) rfl ⟨by rw [E.out], rfl⟩
  · have d1 : decide (a < b) = false := by simp; omega
    by_cases h2 : b < a
    · have d2 : decide (b < a) = true := by simp [h2]
      have E : Hid (cmpI a b = 1) := Lib.hid (by unfold cmpI; rw [if_neg h, if_pos h2])
      go_wp2
      exact bodyPost_ret (v := .int .i64 1) (by simp [results, Try.results157, go_sem, *]) rfl ⟨by rw [E.out], rfl⟩
    · have d2 : decide (b < a) = false := by simp; omega
      have E : Hid (cmpI a b = 0) := Lib.hid (by unfold cmpI; rw [if_neg h, if_neg h2])
      go_wp2
      exact bodyPost_ret (v := .int .i64 0) (by simp [results, Try.results157, go_sem, *]) rfl ⟨by rw [E.out], rfl⟩
theorem cmpL_step {xs ys : List Int} {j : Nat} {x y : Int} (hx : xs[j]? = some x) (hy : ys[j]? = some y) : cmpL (xs.drop j) (ys.drop j) = if cmpI x y = 0 then cmpL (xs.drop (j + 1)) (ys.drop (j + 1)) else cmpI x y := by
  obtain ⟨h1, e1⟩ := List.getElem?_eq_some_iff.1 hx
  obtain ⟨h2, e2⟩ := List.getElem?_eq_some_iff.1 hy
  rw [List.drop_eq_getElem_cons h1, List.drop_eq_getElem_cons h2, e1, e2]
  rfl
set_option maxRecDepth 100000 in
set_option maxHeartbeats 3200000 in
theorem cmpL_any (xv yv : Value) (xs ys : List Int) (w : World) (hx : Ri w xv xs) (hy : Ri w yv ys) (hl : xs.length = ys.length) (h2 : xs.length ≤ 2) :
    Calls Try.prog 95 #[xv, yv] w fun e w' => e = .returned (.int .i64 (cmpL xs ys)) ∧ w = w' := by
  obtain ⟨ax, cx, rfl, hcx⟩ := hx
  obtain ⟨ay, cy, rfl, hcy⟩ := hy
  rw [← hl]
  have HX := Lib.hid hcx
  have HY := Lib.hid hcy
  have LE := Lib.hid hl
  clear hcx hcy hl
  go_enter Try.func95, Try.ntmps95
  go_wp2_with fail
  go_loopg [5, 6, 7, 8, 11] (xs.length + 1) (fun gh _ _ _ _ v11 wr => ∃ j : Nat, v11 = .int .i64 j ∧ (j ≤ xs.length ∧ xs.length - j < gh) ∧ Hid (cmpL xs ys = cmpL (xs.drop j) (ys.drop j)) ∧ wr = w)
  case atStart => exact ⟨0, rfl, ⟨by omega, by omega⟩, Lib.hid rfl, rfl⟩
  case round =>
    obtain ⟨j, rfl, ⟨j0, jg⟩, hE, rfl⟩ := hrel
    have KG := Lib.hid jg
    clear jg
    by_cases hj : j < xs.length
    · obtain ⟨x, fx⟩ : ∃ x, xs[j]? = some x := ⟨xs[j], List.getElem?_eq_getElem hj⟩
      obtain ⟨y, fy⟩ : ∃ y, ys[j]? = some y := ⟨ys[j]'(by have := LE.out; omega), List.getElem?_eq_getElem _⟩
      obtain ⟨bx, ox, rfl, _, cxs⟩ := HX.out.resolve_left (by omega)
      obtain ⟨by_, oy, rfl, _, cys⟩ := HY.out.resolve_left (by have := LE.out; omega)
      have p0 := cxs j x fx
      have q0 := cys j y fy
      have ST := Lib.hid (cmpL_step fx fy)
      have jw : IntKind.i64.wrap ((j : Int) + 1) = (j : Int) + 1 := IntWalk.i64_in _ (by omega)
      clear fx fy cxs cys
      go_wp2_with fail
      refine (cmpI_any x y _).mono ?_
      rintro e w' ⟨rfl, rfl⟩
      by_cases z : cmpI x y = 0
      · have z' : (cmpI x y != 0) = false := by simp [z]
        have E := Lib.hid (hE.out.trans (ST.out.trans (if_pos z)))
        clear z
        go_wp2_with fail
        go_roundg (xs.length - j)
        case measure => exact KG.out
        case rel => exact ⟨j + 1, by go_num, ⟨by omega, by omega⟩, E, rfl⟩
      · have z' : (cmpI x y != 0) = true := by simp [z]
        have E := Lib.hid (hE.out.trans (ST.out.trans (if_neg z)))
        clear z
        go_wp2
        exact bodyPost_ret (v := .int .i64 (cmpI x y)) (by simp [results, Try.results95, go_sem, *]) rfl ⟨by rw [E.out], rfl⟩
    · have E : Hid (cmpL xs ys = 0) := Lib.hid (by
        rw [hE.out, List.drop_eq_nil_of_le (by omega), List.drop_eq_nil_of_le (by have := LE.out; omega)]; rfl)
      go_wp2
      exact bodyPost_ret (v := .int .i64 0) (by simp [results, Try.results95, go_sem, *]) rfl ⟨by rw [E.out], rfl⟩
end Go.Proofs.Ytmelknodmbdhpaa
namespace Go.Proofs.Ytmelknodmbdhpaa
theorem posB_iff {l h s n : Int} (hk : chk l h s = 0) : posB l h s n = true ↔ RMem l h s n := by
  unfold posB RMem Mem
  rw [decide_eq_true_iff]
  constructor
  · rintro ⟨_, a, b, c⟩; exact ⟨a, b, Int.dvd_of_emod_eq_zero c⟩
  · rintro ⟨a, b, c⟩; exact ⟨hk, a, b, Int.emod_eq_zero_of_dvd c⟩
theorem nums_mem {l h s : Int} (hk : chk l h s = 0) (n : Int) : n ∈ numsL l h s ↔ RMem l h s n := by
  unfold numsL numsU
  rw [List.mem_map]
  constructor
  · rintro ⟨k, hk1, rfl⟩
    have hlt : k < (siz l h s).toNat := by simpa using hk1
    exact (posB_iff hk).1 (nthV_in hk (show (k : Int) < siz l h s by omega)).1
  · intro hm
    have le : l ≤ h := by have := hm.1; have := hm.2.1; omega
    obtain ⟨st, z, m1, s0⟩ := steps_a hk le
    obtain ⟨q, hq⟩ := hm.2.2
    have h1 := hm.1
    have h2 := hm.2.1
    have q0 : 0 ≤ q := by
      by_cases c : 0 ≤ q
      · exact c
      · have : magA s * q ≤ magA s * (-1) := Int.mul_le_mul_of_nonneg_left (by omega) (by omega)
        omega
    have q1 : q ≤ siz l h s - 1 := by
      by_cases c : q ≤ siz l h s - 1
      · exact c
      · have : (siz l h s - 1 + 1) * magA s ≤ q * magA s := mulr_a _ _ _ (by omega) (by omega)
        rw [Int.add_mul] at this
        rw [Int.mul_comm] at hq
        omega
    by_cases c : s < 0
    · refine ⟨(siz l h s - 1 - q).toNat, by simp; omega, ?_⟩
      unfold nthV
      rw [if_pos c, show (((siz l h s - 1 - q).toNat : Nat) : Int) = siz l h s - 1 - q by omega, Int.sub_mul, ← st, Int.mul_comm q, ← hq]
      omega
    · refine ⟨q.toNat, by simp; omega, ?_⟩
      unfold nthV
      rw [if_neg c, show ((q.toNat : Nat) : Int) = q by omega, Int.mul_comm, ← hq]
      omega
theorem nums_up {l h s : Int} (hk : chk l h s = 0) (hs : ¬ s < 0) : (numsL l h s).Pairwise (· < ·) := by
  have bA := chk_bounds hk
  unfold numsL numsU
  rw [List.pairwise_map]
  refine List.Pairwise.imp ?_ List.pairwise_lt_range
  intro i j hij
  unfold nthV
  rw [if_neg hs, if_neg hs]
  have : ((i : Int) + 1) * magA s ≤ (j : Int) * magA s := mulr_a _ _ _ (by omega) (by omega)
  rw [Int.add_mul] at this
  omega
theorem nums_down {l h s : Int} (hk : chk l h s = 0) (hs : s < 0) : (numsL l h s).Pairwise (· > ·) := by
  have bA := chk_bounds hk
  unfold numsL numsU
  rw [List.pairwise_map]
  refine List.Pairwise.imp ?_ List.pairwise_lt_range
  intro i j hij
  unfold nthV
  rw [if_pos hs, if_pos hs]
  have : ((i : Int) + 1) * magA s ≤ (j : Int) * magA s := mulr_a _ _ _ (by omega) (by omega)
  rw [Int.add_mul] at this
  show _ > _
  omega
theorem nums_nodup {l h s : Int} (hk : chk l h s = 0) : (numsL l h s).Nodup := by
  by_cases c : s < 0
  · exact (nums_down hk c).imp fun h => by omega
  · exact (nums_up hk c).imp fun h => by omega
/-- the numbers of a list of ranges -/
def numsAll (L : List R3) : List Int := L.flatMap fun x => numsL x.1 x.2.1 x.2.2
/-- a list of right ranges that are not empty, that have no number twice, and just the numbers of which P holds -/
structure Acc (P : Int → Prop) (L : List R3) : Prop where
  ok : ∀ x ∈ L, chk x.1 x.2.1 x.2.2 = 0 ∧ x.1 ≤ x.2.1
  nodup : (numsAll L).Nodup
  mem : ∀ n, n ∈ numsAll L ↔ P n
theorem Acc.nil {P : Int → Prop} (h : ∀ n, ¬ P n) : Acc P [] := ⟨fun _ hx => (by cases hx), List.nodup_nil, fun n => ⟨fun hx => (by cases hx), fun hx => absurd hx (h n)⟩⟩
theorem Acc.iff {P Q : Int → Prop} {L : List R3} (a : Acc P L) (h : ∀ n, P n ↔ Q n) : Acc Q L := ⟨a.ok, a.nodup, fun n => (a.mem n).trans (h n)⟩
theorem nrm_le' {lo hi st : Int} {dn : Bool} (c : lo ≤ hi) : (nrm lo hi st dn).1 = lo ∧ (nrm lo hi st dn).2.1 = hi := by
  unfold nrm nL nH; simp; exact ⟨fun _ => by omega, fun _ => by omega⟩
theorem nrm_mem {lo hi st : Int} {dn : Bool} (c : lo ≤ hi) (h1 : 1 ≤ st) (n : Int) : RMem (nrm lo hi st dn).1 (nrm lo hi st dn).2.1 (nrm lo hi st dn).2.2 n ↔ Mem lo hi st n := by
  obtain ⟨e1, e2⟩ := nrm_le' (st := st) (dn := dn) c
  unfold RMem
  rw [e1, e2]
  unfold nrm nS Mem
  simp only
  rw [if_neg (by omega)]
  by_cases e : lo = hi
  · subst e
    rw [if_pos rfl]
    constructor
    · rintro ⟨a, b, _⟩; exact ⟨a, b, by rw [show n - lo = 0 by omega]; exact Int.dvd_zero _⟩
    · rintro ⟨a, b, _⟩; exact ⟨a, b, by rw [show n - lo = 0 by omega]; exact Int.dvd_zero _⟩
  · rw [if_neg e]
    have : magA (if dn = true then -st else st) = st := by
      unfold magA; split <;> split <;> omega
    rw [this]
theorem Acc.add {P : Int → Prop} {L : List R3} (a : Acc P L) (lo hi st : Int) (dn : Bool) (h1 : 1 ≤ st) (hb : lo ≤ hi → (st ∣ hi - lo) ∧ -1000000 ≤ lo ∧ hi ≤ 1000000) (hn : ∀ n, P n → ¬ Mem lo hi st n) : Acc (fun n => P n ∨ Mem lo hi st n) (addP L lo hi st dn) := by
  unfold addP
  by_cases c : lo ≤ hi
  · rw [if_pos c]
    obtain ⟨b1, b2, b3⟩ := hb c
    have ck : chk (nrm lo hi st dn).1 (nrm lo hi st dn).2.1 (nrm lo hi st dn).2.2 = 0 := by
      have := chk_nrm lo hi st dn c h1 (Int.emod_eq_zero_of_dvd b1)
      rw [if_neg (by omega)] at this
      exact this
    have e : numsAll (L ++ [nrm lo hi st dn]) = numsAll L ++ numsL (nrm lo hi st dn).1 (nrm lo hi st dn).2.1 (nrm lo hi st dn).2.2 := by
      unfold numsAll; rw [List.flatMap_append]; simp
    refine ⟨?_, ?_, ?_⟩
    · intro x hx
      rw [List.mem_append, List.mem_singleton] at hx
      rcases hx with hx | rfl
      · exact a.ok x hx
      · exact ⟨ck, by rw [(nrm_le' c).1, (nrm_le' c).2]; exact c⟩
    · rw [e, List.nodup_append]
      refine ⟨a.nodup, nums_nodup ck, fun x hx y hy exy => ?_⟩
      subst exy
      exact hn x ((a.mem x).1 hx) ((nrm_mem c h1 x).1 ((nums_mem ck x).1 hy))
    · intro n
      rw [e, List.mem_append, a.mem, nums_mem ck, nrm_mem c h1]
  · rw [if_neg c]
    exact a.iff fun n => ⟨Or.inl, fun h => h.elim id fun m => absurd (Int.le_trans m.1 m.2.1) c⟩
end Go.Proofs.Ytmelknodmbdhpaa
namespace Go.Proofs.Ytmelknodmbdhpaa
open Go.RowKit
theorem Ri.of_own {w : World} {base : Nat} {v : Value} {L : List Int} (h : w.ownsRow base 3 1 v L.length (L.map (Value.int .i64))) : Ri w v L := by
  obtain ⟨ao, cap, rfl⟩ := owns_slice h
  refine ⟨ao, cap, rfl, ?_⟩
  by_cases z : L.length = 0
  · exact Or.inl z
  · obtain ⟨g, rfl⟩ := owns_addr h z
    refine Or.inr ⟨g, 0, rfl, (h.lt g rfl).2, fun j x hx => ?_⟩
    have hj : j < L.length := (List.getElem?_eq_some_iff.1 hx).1
    rw [Nat.zero_add]
    exact (h.cellAt j (by omega)).trans (by simp [hx])
/-- whether a domain is right and has few indices -/
def smallB (L : List R3) (k s h : Int) : Bool := decide (dchk L k s h = 0) && decide (prodL L ≤ 500)
set_option maxRecDepth 100000 in
theorem small_dom (v : Value) (L : List R3) (k s h : Int) (w : World) (hr : Rd w v L) (hL : Ok3 L) :
    Calls Try.prog 91 #[.agg #[v, .int .i64 k, .int .i64 s, .int .i64 h]] w fun e w' => e = .returned (.bool (smallB L k s h)) ∧ Below w.heap.size w w' := by
  obtain ⟨ao, cap, rfl, hc⟩ := hr
  have HR : Hid (Rd w (.slice ao L.length cap) L) := Lib.hid ⟨ao, cap, rfl, hc⟩
  have HL := Lib.hid hL
  clear hc hL
  go_enter Try.func91, Try.ntmps91
  go_wp2_with fail
  refine (Dcheck_any _ L _ _ _ _ (HR.out.keep (below_new _ _)) HL.out).mono ?_
  rintro e w1 ⟨rfl, hb1⟩
  have R1 := resD hb1
  have D1 : Hid (DSt w (.slice ao L.length cap) k s h w1) := Lib.hid ⟨R1.1, R1.2⟩
  clear hb1 R1
  by_cases c : dchk L k s h = 0
  · have c' : (dchk L k s h == 0) = true := by simp [c]
    have E : Hid (smallB L k s h = decide (prodL L ≤ 500)) := Lib.hid (by unfold smallB; simp [c])
    have ES : Hid (dsiz L k s h = prodL L) := Lib.hid (by unfold dsiz; rw [if_pos c])
    have x0 := D1.out.d.c0
    have x1 := D1.out.d.c1
    have x2 := D1.out.d.c2
    have x3 := D1.out.d.c3
    clear c
    go_wp2_with fail
    refine (Dsize_any _ L _ _ _ _ (HR.out.keep D1.out.below) HL.out).mono ?_
    rintro e w2 ⟨rfl, hb2⟩
    rw [ES.out]
    have D2 := Lib.hid (D1.out.keep hb2)
    clear hb2 D1 x0 x1 x2 x3
    go_wp2
    rw [E.out]
    exact bodyPost_ret (v := .bool (decide (prodL L ≤ 500))) (by simp [results, Try.results91, go_sem, *]) rfl ⟨rfl, D2.out.below⟩
  · have c' : (dchk L k s h == 0) = false := by simp [c]
    have E : Hid (smallB L k s h = false) := Lib.hid (by unfold smallB; simp [c])
    clear c
    go_wp2
    rw [E.out]
    exact bodyPost_ret (v := .bool false) (by simp [results, Try.results91, go_sem, *]) rfl ⟨rfl, D1.out.below⟩
end Go.Proofs.Ytmelknodmbdhpaa
namespace Go.Proofs.Ytmelknodmbdhpaa
open Go.RowKit
/-- moved's boxes: the domain, the numbers, the function, the result -/
structure MSt (w : World) (v : Value) (k s h : Int) (iv mv : Value) (wr : World) : Prop where
  below : Below w.heap.size w wr
  d : Blk w.heap.size v (.int .i64 k) (.int .i64 s) (.int .i64 h) wr
  i : wr.cell? ⟨w.heap.size + 1, 0, none⟩ = some iv
  m : wr.cell? ⟨w.heap.size + 2, 0, none⟩ = some mv
  z : Blk (w.heap.size + 3) (.slice none 0 0) (.int .i64 0) (.int .i64 0) (.int .i64 0) wr
theorem MSt.keep {w : World} {v : Value} {k s h : Int} {iv mv : Value} {wa wb : World} (t : MSt w v k s h iv mv wa) (hb : Below wa.heap.size wa wb) : MSt w v k s h iv mv wb :=
  ⟨t.below.trans (hb.mono t.below.size), t.d.keep hb, (hb.cell (p := ⟨w.heap.size + 1, 0, none⟩) (by have := t.z.size; simp; omega)).trans t.i, (hb.cell (p := ⟨w.heap.size + 2, 0, none⟩) (by have := t.z.size; simp; omega)).trans t.m, t.z.keep hb⟩
theorem MSt.new (w : World) (v : Value) (k s h : Int) (iv mv : Value) (t1 t2 t3 t4 : TypeId) : MSt w v k s h iv mv ((((w.alloc (.cells #[v, .int .i64 k, .int .i64 s, .int .i64 h] t1)).alloc (.cells #[iv] t2)).alloc (.cells #[mv] t3)).alloc (.cells #[.slice none 0 0, .int .i64 0, .int .i64 0, .int .i64 0] t4)) := by
  have n1 := below_new w (.cells #[v, .int .i64 k, .int .i64 s, .int .i64 h] t1)
  have b1 := Blk.new v (.int .i64 k) (.int .i64 s) (.int .i64 h) t1 w
  have s1 : (w.alloc (.cells #[v, .int .i64 k, .int .i64 s, .int .i64 h] t1)).heap.size = w.heap.size + 1 := by simp
  generalize w.alloc (.cells #[v, .int .i64 k, .int .i64 s, .int .i64 h] t1) = w1 at *
  have n2 := below_new w1 (.cells #[iv] t2)
  have c2 : (w1.alloc (.cells #[iv] t2)).cell? ⟨w1.heap.size, 0, none⟩ = some iv := by simp [go_sem]
  have s2 : (w1.alloc (.cells #[iv] t2)).heap.size = w1.heap.size + 1 := by simp
  generalize w1.alloc (.cells #[iv] t2) = w2 at *
  have n3 := below_new w2 (.cells #[mv] t3)
  have c3 : (w2.alloc (.cells #[mv] t3)).cell? ⟨w2.heap.size, 0, none⟩ = some mv := by simp [go_sem]
  have s3 : (w2.alloc (.cells #[mv] t3)).heap.size = w2.heap.size + 1 := by simp
  generalize w2.alloc (.cells #[mv] t3) = w3 at *
  have n4 := below_new w3 (.cells #[.slice none 0 0, .int .i64 0, .int .i64 0, .int .i64 0] t4)
  have b4 := Blk.new (.slice none 0 0) (.int .i64 0) (.int .i64 0) (.int .i64 0) t4 w3
  rw [s3, s2, s1] at b4
  rw [s1] at c2
  rw [s2, s1] at c3
  refine ⟨n1.trans ((n2.mono (by omega)).trans ((n3.mono (by omega)).trans (n4.mono (by omega)))), ((b1.keep n2).keep n3).keep n4, ?_, ?_, b4⟩
  · rw [n4.cell (p := ⟨w.heap.size + 1, 0, none⟩) (by simp; omega), n3.cell (p := ⟨w.heap.size + 1, 0, none⟩) (by simp; omega)]; exact c2
  · rw [n4.cell (p := ⟨w.heap.size + 2, 0, none⟩) (by simp; omega)]; exact c3
/-- what moved returns -/
def DMvP (R : Nat → R3 → Int → Prop) (L : List R3) (k s h : Int) (ns : List Int) (B : Nat) (v : Value) (k' s' h' er : Int) (w' : World) : Prop :=
  (¬ dchk L k s h = 0 ∧ er = dchk L k s h ∧ v = .slice none 0 0 ∧ k' = 0 ∧ s' = 0 ∧ h' = 0) ∨
  (dchk L k s h = 0 ∧ ¬ ns.length = L.length ∧ er = 5 ∧ v = .slice none 0 0 ∧ k' = 0 ∧ s' = 0 ∧ h' = 0) ∨
  (dchk L k s h = 0 ∧ ns.length = L.length ∧
    ((∃ X : List R3, X.length = L.length ∧ (∀ (i : Nat) (x : R3), X[i]? = some x → R i x 0) ∧ er = 0 ∧ k' = k ∧ s' = s ∧ h' = h ∧ w'.ownsRow B 23 3 v X.length (cells3 X)) ∨
     (∃ (j : Nat) (x : R3), j < L.length ∧ R j x er ∧ ¬ er = 0 ∧ (∀ i, i < j → ∃ y, R i y 0) ∧ v = .slice none 0 0 ∧ k' = 0 ∧ s' = 0 ∧ h' = 0)))
theorem DMvP.keep {R : Nat → R3 → Int → Prop} {L : List R3} {k s h : Int} {ns : List Int} {B B' : Nat} {v : Value} {k' s' h' er : Int} {w1 w2 : World} (p : DMvP R L k s h ns B v k' s' h' er w1) (hB : B' ≤ B) (hb : Below B w1 w2) (hr : ∀ g, v.ownBlock = some g → ∃ C, g < C ∧ Below C w1 w2) : DMvP R L k s h ns B' v k' s' h' er w2 := by
  rcases p with p | p | ⟨c, l, ⟨X, a, b, e, e1, e2, e3, own⟩ | p⟩
  · exact Or.inl p
  · exact Or.inr (Or.inl p)
  · refine Or.inr (Or.inr ⟨c, l, Or.inl ⟨X, a, b, e, e1, e2, e3, owns_base ?_ hB⟩⟩)
    cases hv : v.ownBlock with
    | none =>
      rcases own.2 with ⟨h1, h2⟩ | ⟨g, cap, cur, rfl, _⟩
      · exact ⟨own.1, Or.inl ⟨h1, h2⟩⟩
      · cases hv
    | some g =>
      obtain ⟨C, hg, hC⟩ := hr g hv
      exact owns_under own hC (fun g' hg' => by rw [hv] at hg'; cases hg'; exact hg)
  · exact Or.inr (Or.inr ⟨c, l, Or.inr p⟩)
theorem DMvP.set {R : Nat → R3 → Int → Prop} {L : List R3} {k s h : Int} {ns : List Int} {B B' g : Nat} {v : Value} {k' s' h' er : Int} {w1 : World} (p : DMvP R L k s h ns B v k' s' h' er w1) (hB : B' ≤ B) (hg : g < B) (a b c d : Value) : DMvP R L k s h ns B' v k' s' h' er (set4 w1 g a b c d) := by
  rcases p with p | p | ⟨c', l, ⟨X, a', b', e, e1, e2, e3, own⟩ | p⟩
  · exact Or.inl p
  · exact Or.inr (Or.inl p)
  · refine Or.inr (Or.inr ⟨c', l, Or.inl ⟨X, a', b', e, e1, e2, e3, owns_base ?_ hB⟩⟩)
    unfold set4
    exact ownsRow_setCell_below (ownsRow_setCell_below (ownsRow_setCell_below (ownsRow_setCell_below own (by simpa using hg) _) (by simpa using hg) _) (by simpa using hg) _) (by simpa using hg) _
  · exact Or.inr (Or.inr ⟨c', l, Or.inr p⟩)
end Go.Proofs.Ytmelknodmbdhpaa
namespace Go.Proofs.Ytmelknodmbdhpaa
open Go.RowKit
/-- the boxes of three domains that the call itself made -/
structure D3 (w : World) (v1 : Value) (k1 s1 h1 : Int) (v2 : Value) (k2 s2 h2 : Int) (v3 : Value) (k3 s3 h3 : Int) (wx : World) : Prop where
  below : Below w.heap.size w wx
  a : Blk w.heap.size v1 (.int .i64 k1) (.int .i64 s1) (.int .i64 h1) wx
  b : Blk (w.heap.size + 1) v2 (.int .i64 k2) (.int .i64 s2) (.int .i64 h2) wx
  c : Blk (w.heap.size + 1 + 1) v3 (.int .i64 k3) (.int .i64 s3) (.int .i64 h3) wx
theorem D3.keep {w : World} {v1 : Value} {k1 s1 h1 : Int} {v2 : Value} {k2 s2 h2 : Int} {v3 : Value} {k3 s3 h3 : Int} {wx wy : World} (t : D3 w v1 k1 s1 h1 v2 k2 s2 h2 v3 k3 s3 h3 wx) (hb : Below wx.heap.size wx wy) : D3 w v1 k1 s1 h1 v2 k2 s2 h2 v3 k3 s3 h3 wy :=
  ⟨t.below.trans (hb.mono t.below.size), t.a.keep hb, t.b.keep hb, t.c.keep hb⟩
theorem D3.new (w : World) (v1 : Value) (k1 s1 h1 : Int) (v2 : Value) (k2 s2 h2 : Int) (v3 : Value) (k3 s3 h3 : Int) :
    D3 w v1 k1 s1 h1 v2 k2 s2 h2 v3 k3 s3 h3 (((w.alloc (.cells #[v1, .int .i64 k1, .int .i64 s1, .int .i64 h1] 62)).alloc (.cells #[v2, .int .i64 k2, .int .i64 s2, .int .i64 h2] 62)).alloc (.cells #[v3, .int .i64 k3, .int .i64 s3, .int .i64 h3] 62)) := by
  have n1 := below_new w (.cells #[v1, .int .i64 k1, .int .i64 s1, .int .i64 h1] 62)
  have n2 := below_new (w.alloc (.cells #[v1, .int .i64 k1, .int .i64 s1, .int .i64 h1] 62)) (.cells #[v2, .int .i64 k2, .int .i64 s2, .int .i64 h2] 62)
  have n3 := below_new ((w.alloc (.cells #[v1, .int .i64 k1, .int .i64 s1, .int .i64 h1] 62)).alloc (.cells #[v2, .int .i64 k2, .int .i64 s2, .int .i64 h2] 62)) (.cells #[v3, .int .i64 k3, .int .i64 s3, .int .i64 h3] 62)
  have z1 : (w.alloc (.cells #[v1, .int .i64 k1, .int .i64 s1, .int .i64 h1] 62)).heap.size = w.heap.size + 1 := by simp
  have z2 : ((w.alloc (.cells #[v1, .int .i64 k1, .int .i64 s1, .int .i64 h1] 62)).alloc (.cells #[v2, .int .i64 k2, .int .i64 s2, .int .i64 h2] 62)).heap.size = w.heap.size + 1 + 1 := by simp
  refine ⟨(n1.trans (n2.mono (by omega))).trans (n3.mono (by omega)), ((Blk.new _ _ _ _ _ w).keep n2).keep n3, ?_, ?_⟩
  · have := (Blk.new v2 (.int .i64 k2) (.int .i64 s2) (.int .i64 h2) 62 (w.alloc (.cells #[v1, .int .i64 k1, .int .i64 s1, .int .i64 h1] 62))).keep n3
    rw [z1] at this
    exact this
  · have := Blk.new v3 (.int .i64 k3) (.int .i64 s3) (.int .i64 h3) 62 ((w.alloc (.cells #[v1, .int .i64 k1, .int .i64 s1, .int .i64 h1] 62)).alloc (.cells #[v2, .int .i64 k2, .int .i64 s2, .int .i64 h2] 62))
    rw [z2] at this
    exact this
end Go.Proofs.Ytmelknodmbdhpaa
namespace Go.Proofs.Ytmelknodmbdhpaa
open Go.RowKit
/-- a box with a domain in it -/
structure DB (g : Nat) (v : Value) (X : List R3) (k s h : Int) (w : World) : Prop where
  b : Blk g v (.int .i64 k) (.int .i64 s) (.int .i64 h) w
  r : Rd w v X
theorem DB.keep {g : Nat} {v : Value} {X : List R3} {k s h : Int} {w w' : World} (t : DB g v X k s h w) (hb : Below w.heap.size w w') : DB g v X k s h w' := ⟨t.b.keep hb, t.r.keep hb⟩
/-- the law's blocks -/
structure PSt (w : World) (v : Value) (k s h : Int) (iv : Value) (ns : List Int) (wr : World) : Prop where
  below : Below w.heap.size w wr
  d : Blk w.heap.size v (.int .i64 k) (.int .i64 s) (.int .i64 h) wr
  n : Ri wr iv ns
theorem PSt.keep {w : World} {v : Value} {k s h : Int} {iv : Value} {ns : List Int} {wa wb : World} (t : PSt w v k s h iv ns wa) (hb : Below wa.heap.size wa wb) : PSt w v k s h iv ns wb :=
  ⟨t.below.trans (hb.mono t.below.size), t.d.keep hb, t.n.keep hb⟩
/-- the first numbers of two -/
theorem two_at2 {w : World} {a b : Int} {t : TypeId} {n : Nat} (hn : n = 1 ∨ n = 2) : Ri (w.alloc (.cells #[.int .i64 a, .int .i64 b] t)) (.slice (some ⟨w.heap.size, 0, none⟩) n 2) ([a, b].take n) := by
  have hl : ([a, b].take n).length = n := by rcases hn with rfl | rfl <;> rfl
  refine ⟨some ⟨w.heap.size, 0, none⟩, 2, by rw [hl], Or.inr ⟨w.heap.size, 0, rfl, by simp, fun j x hx => ?_⟩⟩
  have hj : j < n := by have := (List.getElem?_eq_some_iff.1 hx).1; omega
  rw [List.getElem?_take_of_lt hj] at hx
  match j, hx with
  | 0, hx => simp at hx; subst hx; simp [go_sem]
  | 1, hx => simp at hx; subst hx; simp [go_sem]
end Go.Proofs.Ytmelknodmbdhpaa
namespace Go.Proofs.Ytmelknodmbdhpaa
open Go.RowKit
theorem two_at3 {w : World} {a b : Int} {t : TypeId} : Ri (w.alloc (.cells #[.int .i64 a, .int .i64 b] t)) (.slice (some ⟨w.heap.size, 0, none⟩) 2 2) [a, b] := two_at2 (n := 2) (Or.inr rfl)
set_option maxRecDepth 100000 in
set_option maxHeartbeats 3200000 in
theorem index_any (v : Value) (L : List R3) (k s h a b : Int) (w : World) (hr : Rd w v L) (hn : L.length = 1 ∨ L.length = 2) :
    Calls Try.prog 96 #[.agg #[v, .int .i64 k, .int .i64 s, .int .i64 h], .agg #[.int .i64 a, .int .i64 b]] w fun e w' => ∃ u, e = .returned u ∧ Hid (Ri w' u ([a, b].take L.length)) ∧ Below w.heap.size w w' := by
  obtain ⟨ao, cp, rfl, _⟩ := hr
  have hn2 : (L.length : Int) ≤ 2 := by omega
  have HN := Lib.hid hn
  clear hn
  have R : Hid (Ri ((w.alloc (.cells #[.slice ao L.length cp, .int .i64 k, .int .i64 s, .int .i64 h] 62)).alloc (.cells #[.int .i64 a, .int .i64 b] 87)) (.slice (some ⟨(w.alloc (.cells #[.slice ao L.length cp, .int .i64 k, .int .i64 s, .int .i64 h] 62)).heap.size, 0, none⟩) L.length 2) ([a, b].take L.length)) := Lib.hid (two_at2 HN.out)
  rw [World.size_alloc] at R
  have B : Hid (Below w.heap.size w ((w.alloc (.cells #[.slice ao L.length cp, .int .i64 k, .int .i64 s, .int .i64 h] 62)).alloc (.cells #[.int .i64 a, .int .i64 b] 87))) := Lib.hid ((below_new w _).alloc (by simp) _)
  go_enter Try.func96, Try.ntmps96
  go_wp2
  exact bodyPost_ret (v := .slice (some ⟨w.heap.size + 1, 0, none⟩) L.length 2) (by simp [results, Try.results96, go_sem, *]) rfl ⟨_, rfl, R, B.out⟩
set_option maxRecDepth 100000 in
set_option maxHeartbeats 3200000 in
theorem ordC_any (a0 a1 b0 b1 : Int) (w : World) :
    Calls Try.prog 94 #[.agg #[.int .i64 a0, .int .i64 a1], .agg #[.int .i64 b0, .int .i64 b1]] w fun e w' => e = .returned (.int .i64 (cmpL [a0, a1] [b0, b1])) ∧ Below w.heap.size w w' := by
  have RA : Hid (Ri ((w.alloc (.cells #[.int .i64 a0, .int .i64 a1] 87)).alloc (.cells #[.int .i64 b0, .int .i64 b1] 87)) (.slice (some ⟨w.heap.size, 0, none⟩) 2 2) [a0, a1]) := Lib.hid (two_at3.keep (below_new _ _))
  have rb := two_at3 (w := w.alloc (.cells #[.int .i64 a0, .int .i64 a1] 87)) (a := b0) (b := b1) (t := 87)
  rw [World.size_alloc] at rb
  have RB := Lib.hid rb
  have BB : Hid (Below w.heap.size w ((w.alloc (.cells #[.int .i64 a0, .int .i64 a1] 87)).alloc (.cells #[.int .i64 b0, .int .i64 b1] 87))) := Lib.hid ((below_new w _).alloc (by simp) _)
  clear rb
  go_enter Try.func94, Try.ntmps94
  go_upto_region 1 with fail
  generalize (w.alloc (.cells #[.int .i64 a0, .int .i64 a1] 87)).alloc (.cells #[.int .i64 b0, .int .i64 b1] 87) = w2 at *
  refine wp_region_held_drew (S := (fun w' => Below w2.heap.size w2 w')) (by kernel_rfl) (to_drew (Below.refl _ _)) (fun hHeld => ?_)
  obtain ⟨v0, hv0⟩ : ∃ v0, v0 = w2.drew := ⟨_, rfl⟩
  rw [← hv0] at hHeld ⊢
  clear hv0
  refine wpAnyH_take (i := 0) (oi := { dst := some 5, op := Op.slice 87 (Operand.tmp 2) none none none, type := 48, pos := "outright.go:41", after := #[], guard := none }) (v := ?_) rfl (by kernel_rfl) (by kernel_rfl) (by kernel_rfl) (fun _ _ _ h => h) (Or.inl ⟨by rfl, ?_⟩) (by assumption) ?_
  rotate_left
  · (intro wq hSw; (try dsimp only at hSw);  clear hSw; go_simp; first | done | with_reducible rfl)
  try simp only [Act.put, List.setIfInBounds_toArray, List.set_cons_zero, List.set_cons_succ]
  refine wpAnyH_take (i := 1) (oi := { dst := some 6, op := Op.slice 87 (Operand.tmp 3) none none none, type := 48, pos := "outright.go:41", after := #[], guard := none }) (v := ?_) rfl (by kernel_rfl) (by kernel_rfl) (by kernel_rfl) (fun _ _ _ h => h) (Or.inl ⟨by rfl, ?_⟩) (by assumption) ?_
  rotate_left
  · (intro wq hSw; (try dsimp only at hSw);  clear hSw; go_simp; first | done | with_reducible rfl)
  try simp only [Act.put, List.setIfInBounds_toArray, List.set_cons_zero, List.set_cons_succ]
  refine wpAnyH_ready (rs := [2]) (by kernel_rfl) (by simp) ?_
  refine AllReadyH.cons (o := { dst := some 7, op := Op.call { callee := Callee.value (Operand.func 95), args := #[Operand.tmp 5, Operand.tmp 6], argTypes := #[48, 48] }, type := 3, pos := "outright.go:41", after := #[{ on := 0, ground := Ground.data }, { on := 1, ground := Ground.data }], guard := none }) rfl (fun K hK => ?_) AllReadyH.nil
  go_simp
  refine (cmpL_any _ _ [a0, a1] [b0, b1] _ (RA.out.keep hHeld) (RB.out.keep hHeld) rfl (by simp)).mono ?_
  rintro e v1 ⟨rfl, rfl⟩
  go_wp2_with fail
  have hS := hHeld
  refine hK.out _ _ hS (fun hHeld => ?_)
  clear hK K hHeld
  have hHeld := hS
  clear hS
  try simp only [Act.put, List.setIfInBounds_toArray, List.set_cons_zero, List.set_cons_succ]
  refine wpAnyH_take (i := 3) (oi := { dst := some 4, op := Op.assign (Operand.tmp 7), type := 3, pos := "outright.go:41", after := #[{ on := 2, ground := Ground.data }, { on := 2, ground := Ground.chain }, { on := 0, ground := Ground.phase }, { on := 1, ground := Ground.phase }, { on := 2, ground := Ground.phase }], guard := none }) (v := ?_) rfl (by kernel_rfl) (by kernel_rfl) (by kernel_rfl) (fun _ _ _ h => h) (Or.inl ⟨by rfl, ?_⟩) (by assumption) ?_
  rotate_left
  · (intro wq hSw; (try dsimp only at hSw);  clear hSw; go_simp; first | done | with_reducible rfl)
  try simp only [Act.put, List.setIfInBounds_toArray, List.set_cons_zero, List.set_cons_succ]
  refine wpAnyH_done (by kernel_rfl) ?_ _
  have B := Lib.hid (BB.out.trans (hHeld.mono BB.out.size))
  clear hHeld
  go_wp2
  exact bodyPost_ret (v := .int .i64 (cmpL [a0, a1] [b0, b1])) (by simp [results, Try.results94, go_sem, *]) rfl ⟨rfl, B.out⟩
end Go.Proofs.Ytmelknodmbdhpaa
