/-
  All of a right range yields its numbers in order; numbers gathers them in a slice of its own.
-/
import Derived.Test.YtdifilndpilboaaSubF
import Derived.RangeFuncBox
import Derived.RangeFuncLeaves
import Derived.RangeFuncBound
import Derived.RangeFuncCalls
import Derived.Shelf.Abstract
import Derived.WalkKit
import Derived.OwnWalkIn
import Derived.TacticsInMore
import Derived.LoopNIn
import Derived.LoopIn
import Derived.Maps.AppendAt
import Derived.Lib.Hide
namespace Go.Proofs.Ytdifilndpilboaa
open Go.RowKit Go.Shelf
attribute [local go_sem] Oper.semAt_some

/-- the number at a position -/
def nthV (l h s : Int) (k : Nat) : Int := if s < 0 then h - (k : Int) * magA s else l + (k : Int) * magA s
/-- the first k numbers of a range, in its order -/
def numsU (l h s : Int) (k : Nat) : List Int := (List.range k).map (nthV l h s)
/-- the numbers of a range, in its order -/
def numsL (l h s : Int) : List Int := numsU l h s (siz l h s).toNat
theorem numsU_succ (l h s : Int) (k : Nat) : numsU l h s (k + 1) = numsU l h s k ++ [nthV l h s k] := by
  unfold numsU; rw [List.range_succ, List.map_append]; rfl
theorem numsU_length (l h s : Int) (k : Nat) : (numsU l h s k).length = k := by unfold numsU; simp
theorem numsU_prefix (l h s : Int) {k n : Nat} (hk : k ≤ n) : numsU l h s k <+: numsU l h s n := by
  induction n with
  | zero => obtain rfl : k = 0 := by omega
            exact List.prefix_refl _
  | succ n ih =>
    by_cases c : k = n + 1
    · subst c; exact List.prefix_refl _
    · rw [numsU_succ]; exact (ih (by omega)).trans (List.prefix_append _ _)

set_option maxHeartbeats 1000000 in
/-- All hands back a closure over a box of the range. -/
theorem all_in (n : Nat) (l h s : Int) (w : World) :
    CallsIn Fence.wide n Try.prog 125 #[.agg #[.int .i64 l, .int .i64 h, .int .i64 s]] w fun e w' => e = .returned (.func (.func 151) #[] #[.pointer (some ⟨w.heap.size, 0, none⟩)]) ∧ w' = w.alloc (.cells #[.int .i64 l, .int .i64 h, .int .i64 s] 23) := by
  refine callsIn_of_wp Try.func125 rfl trivial ?_ rfl
  simp only [Try.ntmps125, List.size_toArray, List.length_cons, List.length_nil, Nat.reduceAdd, Nat.reduceSub, Array.replicate_succ, Array.replicate_zero, List.push_toArray, List.append_toArray, List.nil_append, List.cons_append]
  gi_wp2
  go_ret
  exact ⟨rfl, rfl⟩

theorem abide {J : List Int → World → Prop} {B : Nat} {pre : List Int} {w w' : World} (hJ : AbidesFrom B J) (h : J pre w) (hb : Below w.heap.size w w') : J pre w' :=
  hJ _ _ _ none h ⟨hb.os, hb.tape, hb.output, hb.size, fun k hk _ => hb.block k hk⟩ (fun _ e => by cases e)
theorem heap_keep {w w' : World} {k : Nat} {o : Obj} (h : w.heap[k]? = some o) (hb : Below w.heap.size w w') : w'.heap[k]? = some o := (hb.block k (Array.getElem?_eq_some_iff.1 h).1).trans h
theorem row3 {w : World} {g : Nat} {a b c : Value} {t : TypeId} (h : w.heap[g]? = some (.cells #[a, b, c] t (0, 0))) : w.cell? ⟨g, 0, none⟩ = some a ∧ w.cell? ⟨g, 1, none⟩ = some b ∧ w.cell? ⟨g, 2, none⟩ = some c := by
  refine ⟨?_, ?_, ?_⟩ <;> simp [World.cell?, h]
theorem row4 {w : World} {g : Nat} {a b c d : Value} {t : TypeId} (h : w.heap[g]? = some (.cells #[a, b, c, d] t (0, 0))) : w.cell? ⟨g, 0, none⟩ = some a ∧ w.cell? ⟨g, 1, none⟩ = some b ∧ w.cell? ⟨g, 2, none⟩ = some c ∧ w.cell? ⟨g, 3, none⟩ = some d := by
  refine ⟨?_, ?_, ?_, ?_⟩ <;> simp [World.cell?, h]
/-- blocks of ranges and of progressions lie as they lay -/
def Kq (w w' : World) : Prop := ∀ (k : Nat) (c : Array Value) (t : TypeId) (fr : Nat × Nat), (t = 95 ∨ t = 23) → w.heap[k]? = some (Obj.cells c t fr) → w'.heap[k]? = some (Obj.cells c t fr)
theorem kq_trans {a b c : World} (h : Kq a b) (k : Kq b c) : Kq a c := fun i x t f ht hi => k i x t f ht (h i x t f ht hi)
theorem siz_bdn {l h s : Int} (hk : chk l h s = 0) : 0 ≤ siz l h s ∧ siz l h s ≤ 2000001 := by
  have bA := chk_bounds hk
  by_cases c : l ≤ h
  · have := quo_bd (h - l) (magA s) (by omega) (by omega)
    rw [siz_ok hk c]; omega
  · have := empty_a hk c; omega
theorem psize_any (l h s : Int) (w : World) (hk : Hid (chk l h s = 0)) :
    Calls Try.prog 101 #[.agg #[.int .i64 l, .int .i64 h, .int .i64 (magA s), .bool (decide (s < 0))]] w fun e w' => e = .returned (.int .i64 (siz l h s)) ∧ Below w.heap.size w w' := by
  have bA := chk_bounds hk.out
  by_cases c : l ≤ h
  · exact size_flag l h (magA s) _ w (by omega) c (by omega) (by omega) _ (Lib.hid (siz_ok hk.out c))
  · obtain ⟨rfl, rfl, rfl⟩ := le_of_chk hk.out c
    exact size_empty w
theorem pnth_any (l h s : Int) (k : Nat) (w : World) (hk : Hid (chk l h s = 0)) (hn : (k : Int) < siz l h s) :
    Calls Try.prog 102 #[.agg #[.int .i64 l, .int .i64 h, .int .i64 (magA s), .bool (decide (s < 0))], .int .i64 k] w fun e w' => e = .returned (.int .i64 (nthV l h s k)) ∧ Below w.heap.size w w' := by
  have bA := chk_bounds hk.out
  have le : l ≤ h := by
    by_cases c : l ≤ h
    · exact c
    · have := empty_a hk.out c; omega
  have bd := mul_bd (k : Int) (h - l) (magA s) (by omega) (by rw [← siz_ok hk.out le]; exact hn) (by omega)
  unfold nthV
  by_cases c : s < 0
  · rw [if_pos c, decide_eq_true c]
    exact nth_down l h (magA s) k w (by omega) (by omega) (by omega) (by omega)
  · rw [if_neg c, decide_eq_false c]
    exact nth_up l h (magA s) k w (by omega) (by omega) (by omega) (by omega)

set_option maxRecDepth 100000 in
set_option maxHeartbeats 3200000 in
/-- All's closure: every number, in order; or a part, where a round has said 'no more'. -/
theorem all1_in (n : Nat) (hn : 3 ≤ n) (l' Bn : Nat) (l h s : Int) (hk : Hid (chk l h s = 0)) (J Jx : List Int → World → Prop)
    (hY : ∀ pre x W, J pre W → pre.length < (siz l h s).toNat → YieldAt Fence.wide (n - 1) Try.prog l' #[.int .i64 x] W fun e W' =>
      (e = .returned (.bool true) ∧ J (pre ++ [x]) W' ∧ Kq W W') ∨ (e = .returned (.bool false) ∧ Jx (pre ++ [x]) W'))
    (W : World) (hJ : AbidesFrom W.heap.size J) (hBn : Hid (W.heap[Bn]? = some (.cells #[.int .i64 l, .int .i64 h, .int .i64 s] 23 (0, 0)))) (h0 : J [] W) :
    CallsIn Fence.wide n Try.prog 151 #[.func (.yield l') #[] #[], .pointer (some ⟨Bn, 0, none⟩)] W fun e W' => (∃ v, e = .returned v) ∧
      ((∃ ys, ys = numsL l h s ∧ J ys W') ∨ (∃ pre, pre <+: numsL l h s ∧ Jx pre W')) := by
  have bA := chk_bounds hk.out
  obtain ⟨x0, x1, x2⟩ := row3 hBn.out
  have hm : 0 ≤ siz l h s ∧ siz l h s ≤ 2000001 := siz_bdn hk.out
  have HJ := Lib.hid hJ
  have HY := Lib.hid hY
  have J0 := Lib.hid h0
  clear hJ hY h0
  refine callsIn_of_wp Try.func151 rfl trivial ?_ rfl
  simp only [Try.ntmps151, List.size_toArray, List.length_cons, List.length_nil, Nat.reduceAdd, Nat.reduceSub, Array.replicate_succ, Array.replicate_zero, List.push_toArray, List.append_toArray, List.nil_append, List.cons_append]
  gi_wp2_with fail
  refine ⟨trivial, fun _ => by omega, ?_⟩
  refine (callsIn_wide.2 (check_ok _ _ _ _ ⟨by omega, by omega⟩ ⟨by omega, by omega⟩ ⟨by omega, by omega⟩ hk)).mono ?_
  rintro e w1 ⟨rfl, hb1⟩
  have J1 := Lib.hid (abide HJ.out J0.out hb1)
  have B1 := Lib.hid (heap_keep hBn.out hb1)
  clear hb1 x0 x1 x2 J0
  obtain ⟨x0, x1, x2⟩ := row3 B1.out
  gi_wp2_with fail
  refine ⟨trivial, fun _ => by omega, ?_⟩
  refine (callsIn_wide.2 (open_any _ _ _ _ (by omega) (by omega))).mono ?_
  rintro e w2 ⟨rfl, hb2⟩
  have J2 := Lib.hid (abide HJ.out (abide HJ.out J1.out hb2) (below_new w2 (.cells #[.int .i64 l, .int .i64 h, .int .i64 (magA s), .bool (decide (s < 0))] 95)))
  have P2 : Hid ((w2.alloc (.cells #[.int .i64 l, .int .i64 h, .int .i64 (magA s), .bool (decide (s < 0))] 95)).heap[w2.heap.size]? = some (.cells #[.int .i64 l, .int .i64 h, .int .i64 (magA s), .bool (decide (s < 0))] 95 (0, 0))) := Lib.hid (heap_alloc_new w2 _)
  clear hb2 x0 x1 x2 J1 B1
  gi_wp2_with fail
  refine ⟨trivial, fun _ => by omega, ?_⟩
  refine (callsIn_wide.2 (psize_any _ _ _ _ hk)).mono ?_
  rintro e w3 ⟨rfl, hb3⟩
  have J3 := Lib.hid (abide HJ.out J2.out hb3)
  have P3 := Lib.hid (heap_keep P2.out hb3)
  clear hb3 P2 J2
  generalize w2.heap.size = bp at *
  gi_wp2_with fail
  gi_loopw [4, 12] (fun _ v wr => ∃ k : Nat, (k : Int) ≤ siz l h s ∧ v = .int .i64 k ∧ Hid (J (numsU l h s k) wr) ∧ Hid (wr.heap[bp]? = some (.cells #[.int .i64 l, .int .i64 h, .int .i64 (magA s), .bool (decide (s < 0))] 95 (0, 0))))
    (fun _ v _ => (siz l h s).toNat - (intOf v).toNat)
  case atStart => exact ⟨0, hm.1, rfl, J3, P3⟩
  case round =>
    obtain ⟨k, hkk, rfl, J4, P4⟩ := hrel
    clear J3 P3
    by_cases hlt : (k : Int) < siz l h s
    · obtain ⟨p0, p1, p2, p3⟩ := row4 P4.out
      gi_wp2_with fail
      refine ⟨trivial, fun _ => by omega, ?_⟩
      refine (callsIn_wide.2 (pnth_any _ _ _ _ _ hk hlt)).mono ?_
      rintro e w5 ⟨rfl, hb5⟩
      have J5 := Lib.hid (abide HJ.out J4.out hb5)
      have P5 := Lib.hid (heap_keep P4.out hb5)
      clear hb5 p0 p1 p2 p3 J4 P4
      obtain ⟨fn, tmps, assign, body, hy, hR⟩ := HY.out (numsU l h s k) (nthV l h s k) w5 J5.out (by rw [numsU_length]; omega)
      gi_wp2
      refine ⟨fun _ => by omega, hR.mono ?_⟩
      rintro e W3 (⟨rfl, hJ3, hk3⟩ | ⟨rfl, hJx3⟩)
      · have J6 := Lib.hid hJ3
        have P6 := Lib.hid (hk3 _ _ _ _ (Or.inl rfl) P5.out)
        clear hJ3 hk3 hR hy J5 P5
        have jw : IntKind.i64.wrap ((k : Int) + 1) = (k : Int) + 1 := IntWalk.i64_in _ (by omega)
        gi_wp2
        go_roundw
        case rel => exact ⟨k + 1, by omega, by go_num, by rw [numsU_succ]; exact J6, P6⟩
        case measure => simp [intOf]; omega
      · have JX := Lib.hid hJx3
        clear hJx3 hR hy
        gi_wp2
        refine bodyPost_ret (results_none rfl _ _ _) rfl ?_
        refine ⟨⟨_, rfl⟩, .inr ⟨_, ?_, JX.out⟩⟩
        rw [← numsU_succ]
        exact numsU_prefix l h s (by omega)
    · have E : Hid ((siz l h s).toNat = k) := Lib.hid (by omega)
      gi_wp2
      go_end0
      exact ⟨⟨_, rfl⟩, .inl (by unfold numsL; rw [E.out]; exact J4.out)⟩
end Go.Proofs.Ytdifilndpilboaa
