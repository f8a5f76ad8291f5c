/-
  numbers gathers the numbers of a right range in a slice of its own.
-/
import Derived.Test.YtdifilndpilboaaNumA
import Derived.RangeFuncBox
import Derived.RangeFuncNested
import Derived.RangeFuncLeaves
import Derived.RangeFuncBound
import Derived.RangeFuncCalls
import Derived.Shelf.Abstract
import Derived.WalkKit
import Derived.OwnWalkIn
import Derived.TacticsInMore
import Derived.LoopNIn
import Derived.LoopIn
import Derived.Maps.AppendAt
import Derived.Lib.Hide
namespace Go.Proofs.Ytdifilndpilboaa
open Go.RowKit Go.Shelf
attribute [local go_sem] Oper.semAt_some

theorem Try.infoInt : (Try.prog.info? 3).map (fun i => (i.zero, i.size, i.bytes)) = some (some (.int .i64 0), 1, 8) := by kernel_rfl
theorem all_stops (n : Nat) (hn : 3 ≤ n) (Bn : Nat) (l h s : Int) (w : World) (hk : Hid (chk l h s = 0)) (hB : Hid (w.heap[Bn]? = some (.cells #[.int .i64 l, .int .i64 h, .int .i64 s] 23 (0, 0)))) :
    SeqStopsK Fence.wide n Try.prog 151 #[.pointer (some ⟨Bn, 0, none⟩)] (fun x : Int => #[Value.int .i64 x]) Kq (fun ys => ys = numsL l h s) (fun pre => pre <+: numsL l h s) (siz l h s).toNat w := fun l' J Jx W hW hJ _ hY h0 =>
  all1_in n hn l' Bn l h s hk J Jx hY W hJ (Lib.hid (heap_keep hB.out hW)) h0
theorem kq_b (W : World) (l : Nat) (o o' : Obj) (hl : W.heap[l]? = some o) (ho : o.isCells = false) : Kq W (W.putObj l o') := fun k c t fr _ hk => by
  have hne : some k ≠ some l := by
    intro e
    have e' : k = l := by simpa using e
    subst e'
    rw [hl] at hk
    cases hk
    cases ho
  exact ((grownBy_putObj' W l o').block k (Array.getElem?_eq_some_iff.1 hk).1 hne).trans hk
theorem boxed_low {W w1 : World} {B : Nat} {t : TypeId} {u : Value} {row : Option Nat} (h : Boxed W B t u) (hg : W.grownBy w1 row) (hr : ∀ k, row = some k → B < k) : Boxed w1 B t u :=
  h.kept hg (fun e => by have := hr B e.symm; omega)
theorem boxed_else {W : World} {B C : Nat} {t : TypeId} {u v : Value} (h : Boxed W B t u) (hne : B ≠ C) : Boxed (W.setCell ⟨C, 0, none⟩ v) B t u := (Below.heap_setCell W ⟨C, 0, none⟩ v B hne).trans h
/-- what an append to the slice in a variable does -/
theorem num_append {W w1 : World} {B ob mb b0 : Nat} {v v' m : Value} {k n : Nat} {xs ys : List Value} {tmp : Obj}
    (hv : Boxed W ob 48 v) (hm : Boxed W mb 3 m) (hrow : W.ownsRow b0 3 1 v k xs) (hsz : b0 ≤ W.heap.size) (k1 : ob < b0) (k2 : mb < b0) (k3 : B ≤ ob) (k4 : mb ≠ ob)
    (hown' : w1.ownsRow b0 3 1 v' n ys) (hgrow : (W.alloc tmp).grownBy w1 v.ownBlock) :
    (Boxed w1 ob 48 v ∧ Boxed w1 mb 3 m) ∧ Boxed (w1.setCell ⟨ob, 0, none⟩ v') ob 48 v' ∧ Boxed (w1.setCell ⟨ob, 0, none⟩ v') mb 3 m ∧ (w1.setCell ⟨ob, 0, none⟩ v').ownsRow b0 3 1 v' n ys ∧
      KeepsOthers W (w1.setCell ⟨ob, 0, none⟩ v') ∧ Below B W (w1.setCell ⟨ob, 0, none⟩ v') ∧ Kq W (w1.setCell ⟨ob, 0, none⟩ v') := by
  have low : ∀ j, v.ownBlock = some j → b0 ≤ j := fun j e => (hrow.lt j e).1
  have v1 : Boxed w1 ob 48 v := boxed_low (hv.alloc tmp) hgrow (fun j e => by have := low j e; omega)
  have m1 : Boxed w1 mb 3 m := boxed_low (hm.alloc tmp) hgrow (fun j e => by have := low j e; omega)
  refine ⟨⟨v1, m1⟩, v1.set v', boxed_else m1 k4, ownsRow_setCell_below hown' k1 _, ?_, ?_, ?_⟩
  · refine ((KeepsOthers.alloc W tmp).trans (KeepsOthers.of_grownBy hgrow fun j o ej hj => ?_)).trans (KeepsOthers.setCell _ _ _)
    rcases (hrow.alloc tmp).2 with ⟨rfl, _⟩ | ⟨g, cap, cur, rfl, _, hgb, _⟩
    · simp [Value.ownBlock] at ej
    · obtain rfl : g = j := by simpa [Value.ownBlock] using ej
      rw [hgb] at hj; cases hj; rfl
  · exact (((Below.refl B W).alloc (by omega) tmp).grown hgrow (by simp; omega) fun j ej => by have := low j ej; omega).setCell (p := ⟨ob, 0, none⟩) k3 v'
  · intro j c t fr ht hj
    have lt := (Array.getElem?_eq_some_iff.1 hj).1
    have h1 : (W.alloc tmp).heap[j]? = some (Obj.cells c t fr) := (Below.heap_alloc W tmp j lt).trans hj
    have h2 : w1.heap[j]? = some (Obj.cells c t fr) := by
      refine (hgrow.block j (by simp; omega) ?_).trans h1
      intro e
      rcases (hrow.alloc tmp).2 with ⟨rfl, _⟩ | ⟨g, cap, cur, rfl, _, hgb, _⟩
      · simp [Value.ownBlock] at e
      · obtain rfl : j = g := by simpa [Value.ownBlock] using e
        rw [hgb] at h1; cases h1; rcases ht with ht | ht <;> revert ht <;> decide
    refine (Below.heap_setCell w1 ⟨ob, 0, none⟩ v' j ?_).trans h2
    intro e
    rw [e, show w1.heap[ob]? = _ from v1] at h2
    cases h2; rcases ht with ht | ht <;> revert ht <;> decide
set_option maxRecDepth 4000 in
theorem neq_nil (f : Nat) (lb : Array Value) (w : World) : (binOp .neq 116 (.func (.func f) #[] lb) Value.nilFunc).run Try.prog w = .ok (.bool true) w := by
  unfold binOp
  simp only [Op.equal]
  have e : Op.maxDepth = 9999 + 1 := rfl
  rw [e, Op.equalIn]
  simp [go_sem]
/-- what numbers returns -/
def NumRet (xs : List Int) (w : World) : Ending → World → Prop := fun e w' => ∃ v, e = .returned v ∧ Hid (w'.ownsRow w.heap.size 3 1 v xs.length (xs.map (Value.int .i64))) ∧ Below w.heap.size w w'

set_option maxRecDepth 100000 in
set_option maxHeartbeats 6400000 in
theorem numbers_any (l h s most : Int) (w : World) (hk : Hid (chk l h s = 0)) (hm : siz l h s ≤ most) (hm2 : most ≤ 5000) :
    Calls Try.prog 50 #[.agg #[.int .i64 l, .int .i64 h, .int .i64 s], .int .i64 most] w (NumRet (numsL l h s) w) := by
  have sb := siz_bdn hk.out
  obtain ⟨i0, hi, hz0, hz1, hz2⟩ := info_parts Try.infoInt
  refine (callsIn_wide (n := 6)).1 ?_
  refine callsIn_of_wp_marks Try.func50 rfl trivial ?_ rfl
  simp only [Try.ntmps50, List.size_toArray, List.length_cons, List.length_nil, Nat.reduceAdd, Nat.reduceSub, Array.replicate_succ, Array.replicate_zero, List.push_toArray, List.append_toArray, List.nil_append, List.cons_append]
  gi_wp2_with fail
  refine ⟨trivial, ?_⟩
  refine (all_in _ _ _ _ _).mono ?_
  rintro e w' ⟨rfl, rfl⟩
  have nn := neq_nil 151 #[.pointer (some ⟨w.heap.size + 1 + 1 + 1, 0, none⟩)]
  have bO := (Boxed.new ((w.alloc (.cells #[.int .i64 l, .int .i64 h, .int .i64 s] 23)).alloc (.cells #[.int .i64 most] 3)) 48 (.slice none 0 0)).alloc (.cells #[.int .i64 l, .int .i64 h, .int .i64 s] 23)
  have bM := ((Boxed.new (w.alloc (.cells #[.int .i64 l, .int .i64 h, .int .i64 s] 23)) 3 (.int .i64 most)).alloc (.cells #[.slice none 0 0] 48)).alloc (.cells #[.int .i64 l, .int .i64 h, .int .i64 s] 23)
  have bR := heap_alloc_new (((w.alloc (.cells #[.int .i64 l, .int .i64 h, .int .i64 s] 23)).alloc (.cells #[.int .i64 most] 3)).alloc (.cells #[.slice none 0 0] 48)) (.cells #[.int .i64 l, .int .i64 h, .int .i64 s] 23)
  simp only [World.size_alloc] at bO bM bR
  have hB0 : Below w.heap.size w ((((w.alloc (.cells #[.int .i64 l, .int .i64 h, .int .i64 s] 23)).alloc (.cells #[.int .i64 most] 3)).alloc (.cells #[.slice none 0 0] 48)).alloc (.cells #[.int .i64 l, .int .i64 h, .int .i64 s] 23)) := ((((Below.refl _ w).alloc (Nat.le_refl _) _).alloc (by simp) _).alloc (by simp; omega) _).alloc (by simp; omega) _
  have hW4 : ((((w.alloc (.cells #[.int .i64 l, .int .i64 h, .int .i64 s] 23)).alloc (.cells #[.int .i64 most] 3)).alloc (.cells #[.slice none 0 0] 48)).alloc (.cells #[.int .i64 l, .int .i64 h, .int .i64 s] 23)).heap.size = w.heap.size + 1 + 1 + 1 + 1 := by simp
  have BO := Lib.hid bO
  have BM := Lib.hid bM
  have BR := Lib.hid bR
  have HB0 := Lib.hid hB0
  clear bO bM bR hB0
  generalize ((((w.alloc (.cells #[.int .i64 l, .int .i64 h, .int .i64 s] 23)).alloc (.cells #[.int .i64 most] 3)).alloc (.cells #[.slice none 0 0] 48)).alloc (.cells #[.int .i64 l, .int .i64 h, .int .i64 s] 23)) = w4 at *
  gi_wp2_with fail
  clear nn
  refine wpIn_rangeFunc_ownG (F := Fence.wide) rfl (by omega) (gf := 151) (lb := #[.pointer (some ⟨w.heap.size + 1 + 1 + 1, 0, none⟩)]) rfl trivial (enters_of Try.func151 (by kernel_rfl) rfl)
    (all_stops 5 (by omega) (w.heap.size + 1 + 1 + 1) l h s w4 hk BR) kq_trans (fun W l o o' _ hl ho _ => kq_b W l o o' hl ho) (Below.refl _ _) (fun _ => rfl)
    (fun (pre : List Int) (W : World) => ((∃ v, Boxed W (w.heap.size + 1 + 1) 48 v ∧ W.ownsRow (w.heap.size + 1 + 1 + 1) 3 1 v pre.length (pre.map (Value.int .i64)) ∧ True) ∧ Boxed W (w.heap.size + 1) 3 (.int .i64 most)) ∧ Below w.heap.size w W)
    (fun _ _ _ => False)
    (OwnFrom.and (OwnFrom.and (Own.from (holdsRow_own (w.heap.size + 1 + 1 + 1) (w.heap.size + 1 + 1) 48 3 1 (fun pre : List Int => pre.length) (fun pre : List Int => pre.map (Value.int .i64)) (fun _ _ => True)) _) (Own.from (boxed_own (w.heap.size + 1) 3 (fun _ : List Int => .int .i64 most)) _)) (ownFrom_below (Nat.le_refl _) (by omega)))
    (fun _ _ _ _ _ hs _ _ => hs)
    ⟨⟨⟨_, BO.out, World.ownsRow_nil _ _ _ _, trivial⟩, BM.out⟩, HB0.out⟩
    (fun x => { tmps := #[.agg #[.int .i64 l, .int .i64 h, .int .i64 s], .int .i64 most, .pointer (some ⟨w.heap.size, 0, none⟩), .pointer (some ⟨w.heap.size + 1, 0, none⟩), .slice none 0 0, .pointer (some ⟨w.heap.size + 1 + 1, 0, none⟩), .func (.func 151) #[] #[.pointer (some ⟨w.heap.size + 1 + 1 + 1, 0, none⟩)], .int .i64 x, .agg #[.int .i64 l, .int .i64 h, .int .i64 s], .func (.func 151) #[] #[.pointer (some ⟨w.heap.size + 1 + 1 + 1, 0, none⟩)], .func (.func 151) #[] #[.pointer (some ⟨w.heap.size + 1 + 1 + 1, 0, none⟩)], .bool true, .func (.func 151) #[] #[.pointer (some ⟨w.heap.size + 1 + 1 + 1, 0, none⟩)], .int .i64 x, undef, undef, undef, undef, undef, undef, undef, undef, undef], defers := [] }) ?assign ?body ?done ?stop
  case assign =>
    intro l' x W K hK
    gi_wp2
    exact hK
  case body =>
    rintro l' pre x W ⟨⟨⟨v, hv, hrow, _⟩, hmb⟩, hB⟩ hlt
    have hc := hv.cell
    have hcm := hmb.cell
    have hsz : w.heap.size + 1 + 1 + 1 ≤ W.heap.size := by have := hv.lt; omega
    gi_wp2_with (gi_at_builtin; refine wpListIn_append_own _ rfl _ _ 48 rfl (w.heap.size + 1 + 1 + 1) 3 i0 (.int .i64 0) 1 8 Try.underlying48 hi hz0 hz1 hz2 rfl (by decide) _ _ _ rfl (hrow.alloc _) ⟨W.heap.size, 0, none⟩ 1 1 [.int .i64 x] rfl rfl (cell_one_new _ _ _) (by simp [Value.oneCell']) (by unfold maxLen; omega) (by omega) (by simp; omega) ?_; intro v' w1 hown' hgrow _; obtain ⟨g', cap', rfl⟩ := ownsRow_succ hown'; obtain ⟨⟨hv1, hm1⟩, hv2, hm2', hr2, hk2, hb2, hq2⟩ := num_append (B := w.heap.size) hv hmb hrow hsz (by omega) (by omega) (by omega) (by omega) hown' hgrow; have hc1 := hv1.cell; have hf1 := hv1.frozen; have hcm1 := hm1.cell)
    · have e1 : (pre ++ [x]).length = pre.length + 1 := by simp
      exact ⟨hk2.from _, hq2, ⟨⟨_, hv2, by rw [e1, List.map_append]; exact hr2, trivial⟩, hm2'⟩, hB.trans hb2⟩
  case done =>
    rintro D ys W hD rfl ⟨⟨⟨v, hv, hrow, _⟩, _⟩, hB⟩ hK
    have hc := hv.cell
    gi_wp2
    refine ⟨by simp, .inl ⟨_, _, rfl, run_takeDeferred hK, ?_⟩⟩
    exact ⟨_, results_tmp rfl _ _ _, v, rfl, owns_base (ownsRow_putObj hrow _ hK rfl) (by omega), hB.trans (belowK_b (w := w) (Nat.le_refl _) W D _ _ (by omega) hK rfl rfl)⟩
  case stop =>
    rintro D c pre W _ _ h' _
    exact h'.elim
end Go.Proofs.Ytdifilndpilboaa
