/-
  Part 12: AllA, AllB.
-/
import Derived.Test.YtmelknodmbdhpaaOn5
import Derived.Test.YtmelknodmbdhpaaOn8
import Derived.Test.YtmelknodmbdhpaaOn9
import Derived.BigQuiet
import Derived.Deep.CutBlock
import Derived.Deep.DeepCutAuto
import Derived.Deep.DrawnRows
import Derived.Deep.LoopGhost
import Derived.Deep.QuietTactic
import Derived.Deep.RegionHeld3
import Derived.Deep.RegionWith
import Derived.Laws.Cover3
import Derived.Lib.Hide
import Derived.LoopIn
import Derived.LoopNIn
import Derived.Maps.AppendAt
import Derived.OwnWalk
import Derived.OwnWalkIn
import Derived.RangeFuncBound
import Derived.RangeFuncBox
import Derived.RangeFuncCalls
import Derived.RangeFuncLeaves
import Derived.RangeFuncNested
import Derived.Shelf.Abstract
import Derived.Shelf.RegionOpen
import Derived.TacticsInMore
import Derived.WalkKit
import Derived.WalkLawsBesides
import Derived.WalkSpells
namespace Go.Proofs.Ytmelknodmbdhpaa
open Go.RowKit Go.Shelf
/-- what abides by an iterator that writes into its own blocks, from B to ahead of M -/
def AbidesIn {β : Type} (B M : Nat) (J : β → World → Prop) : Prop :=
  ∀ s W W' row, J s W → W.grownBy W' row → (∀ r, row = some r → B ≤ r ∧ (r < M ∨ ∃ o : Obj, W.heap[r]? = some o ∧ o.isCells = false)) → J s W'
/-- what a round leaves as it lay -/
structure LeavesIn (B M : Nat) (W W' : World) : Prop where
  kf : KeepsFrom B W W'
  own : ∀ k, B ≤ k → k < M → W'.heap[k]? = W.heap[k]?
  kq : Kq W W'
theorem LeavesIn.trans {B M : Nat} {X Y Z : World} (h : LeavesIn B M X Y) (k : LeavesIn B M Y Z) : LeavesIn B M X Z :=
  ⟨h.kf.trans k.kf, fun i a b => (k.own i a b).trans (h.own i a b), kq_trans h.kq k.kq⟩
theorem LeavesIn.refl (B M : Nat) (W : World) : LeavesIn B M W W := ⟨KeepsFrom.refl _ _, fun _ _ _ => rfl, fun _ _ _ _ _ h => h⟩
theorem LeavesIn.putObj {B M l : Nat} {W : World} {o o' : Obj} (hl : W.heap[l]? = some o) (ho : o.isCells = false) (h : l < B) : LeavesIn B M W (W.putObj l o') :=
  ⟨⟨by simp, fun _ _ hk h0 _ => (World.putObj_heap_other (by omega)).trans h0⟩, fun _ a _ => World.putObj_heap_other (by omega), kq_b W l o o' hl ho⟩
/-- an iterator that hands on all of its elements, in their order, and writes into blocks of its own -/
def SeqMoves {α : Type} (F : Fence) (n : Nat) (P : Program) (g : Nat) (lb : Array Value) (encs : α → Array Value) (S : List α → Prop) (T : List α → α → Prop) (W : World) : Prop :=
  ∀ (l : Nat) (J : Nat → List α → World → Prop), (∀ M, AbidesIn W.heap.size M (J M)) →
    (∀ M pre x W1, J M pre W1 → T pre x → YieldAt F (n - 1) P l (encs x) W1 fun e W' => e = .returned (.bool true) ∧ J M (pre ++ [x]) W' ∧ LeavesIn W.heap.size M W1 W') →
    (∀ W', Below W.heap.size W W' → J W'.heap.size [] W') →
    CallsIn F n P g (#[.func (.yield l) #[] #[]] ++ lb) W fun e W' => (∃ v, e = .returned v) ∧ ∃ M xs, S xs ∧ J M xs W'
/-- what a round owes -/
def mvPost {α : Type} (b M : Nat) (I : Nat → List α → World → Prop) (xs : List α) (W : World) : Exit → Act → World → Prop
  | .normal, _, W' => KeepsFrom b W W' ∧ LeavesIn (b + 2) M W W' ∧ I M xs W'
  | _, _, _ => False
theorem wpIn_range_moves {F : Fence} {n : Nat} {P : Program} {w : World} {α : Type} {g : Operand} {ps : Array Tmp} {assign body : Code} {Q : Exit → Act → World → Prop} {a : Act}
    (hro : F.round = none) (h1 : 1 ≤ n) {gf : Nat} {lb : Array Value} (hg : a.eval g = .func (.func gf) #[] lb) (hFg : F.fn gf) (eg : ∀ args w, (callFunc gf args).run P w = .ok (.enter gf args) w)
    {encs : α → Array Value} {S : List α → Prop} {T : List α → α → Prop} (hseq : ∀ W, Below w.heap.size w W → SeqMoves F (n - 1) P gf lb encs S T W) (hps : ∀ x, (encs x).size = ps.size)
    (I : Nat → List α → World → Prop) (hI : ∀ M, AbidesIn w.heap.size M (I M)) (h0 : ∀ W', Below w.heap.size w W' → I W'.heap.size [] W')
    (hround : ∀ (M l : Nat) (pre : List α) (x : α) (W : World), w.heap.size ≤ l → (∃ r, W.heap[l]? = some (.loop r)) → I M pre W → T pre x →
      assign.wpIn (F.inRound l) (n - 1 - 1) P (Exit.then (fun a1 W1 => KeepsFrom w.heap.size W W1 ∧ LeavesIn (w.heap.size + 2) M W W1 ∧ I M pre W1 ∧
        ∀ W2, W1.grownBy W2 (some l) → I M pre W2 → (∃ r, W2.heap[l]? = some (.loop r)) → body.wpIn (F.inRound l) (n - 1 - 1) P (mvPost w.heap.size M I (pre ++ [x]) W2) a1 W2) (fun _ _ _ => False))
        { tmps := (ps.zip (encs x)).foldl (fun t (p, v) => t.setIfInBounds p v) a.tmps, defers := [] } W)
    (hdone : ∀ (D M : Nat) (xs : List α) (W : World), w.heap.size ≤ D → S xs → I M xs W → W.heap[D]? = some (.deferred (some [])) → Q .normal { a with defers := { target := .collected D, args := #[] } :: a.defers } W) :
    (Code.rangeFunc g ps assign body).wpIn F n P Q a w := by
  refine wpIn_rangeFunc fun fn hfn => ?_
  rw [hro]
  obtain ⟨R, hR⟩ : ∃ R : LoopState → Loop, ∀ st, R st = { state := st, pending := none, fn, tmps := a.tmps, params := ps, assign, body, defers := w.heap.size } := ⟨_, fun _ => rfl⟩
  obtain ⟨W1, hW1⟩ : ∃ W1, W1 = (w.alloc (.deferred (some []))).alloc (.loop (R .ready)) := ⟨_, rfl⟩
  have s1 : W1.heap.size = w.heap.size + 2 := by rw [hW1]; simp
  have e1 : W1.heap[w.heap.size + 1]? = some (.loop (R .ready)) := by
    have := World.alloc_heap_new (w.alloc (.deferred (some []))) (.loop (R .ready))
    rw [World.size_alloc] at this
    rw [hW1]; exact this
  have e0 : W1.heap[w.heap.size]? = some (.deferred (some [])) := by
    rw [hW1]; exact (Below.heap_alloc _ _ _ (by simp)).trans (World.alloc_heap_new w _)
  have bw : Below w.heap.size w W1 := by
    rw [hW1]; exact ((Below.refl _ w).alloc (Nat.le_refl _) _).alloc (by simp) _
  refine ⟨w.heap.size + 1, [{ target := .collected w.heap.size, args := #[] }], W1, { target := .fn (.func gf) lb, args := #[.func (.yield (w.heap.size + 1)) #[] #[]] }, W1, gf,
    #[.func (.yield (w.heap.size + 1)) #[] #[]] ++ lb, W1, ?_, ?_, ?_, ?_, fun _ => h1, ?_⟩
  · rw [hW1, hR]; exact run_enterLoop_outer _ _ _ _ _
  · simp only [resolve, hg]
    simp [go_sem]
  · intro f' hf'; simp [Target.leads] at hf'; subst hf'; exact hFg
  · simp [invoke, go_sem, eg]
  refine (hseq W1 bw (w.heap.size + 1) (fun M pre W => I M pre W ∧ W.heap[w.heap.size + 1]? = some (.loop (R .ready)) ∧ W.heap[w.heap.size]? = some (.deferred (some []))) ?_ ?_ ?_).mono ?_
  · intro M s A B row hs hgr hr
    have lo : ∀ r, row = some r → w.heap.size + 2 ≤ r := fun r e => by have := (hr r e).1; omega
    refine ⟨hI M s A B row hs.1 hgr (fun r e => ⟨by have := lo r e; omega, (hr r e).2⟩), ?_, ?_⟩
    · exact (hgr.block _ (Array.getElem?_eq_some_iff.1 hs.2.1).1 (fun e => by have := lo _ e.symm; omega)).trans hs.2.1
    · exact (hgr.block _ (Array.getElem?_eq_some_iff.1 hs.2.2).1 (fun e => by have := lo _ e.symm; omega)).trans hs.2.2
  · rintro M pre x W ⟨hi, hl, hk⟩ hlen
    have hy := run_yield (P := P) (args := encs x) hl (by rw [hR]; exact hps x)
    rw [hR] at hy
    refine ⟨fn, _, assign, body, hy, roundIn_of_wpIn hfn (wpIn_mono (hround M (w.heap.size + 1) pre x W (by omega) ⟨_, hl⟩ hi hlen) ?_)⟩
    intro e a1 Wa h
    cases e with
    | normal =>
      obtain ⟨k1, d1, i1, hb⟩ := h
      have l1 := k1.same _ _ (by omega) hl rfl
      have z1 := k1.same _ _ (Nat.le_refl _) hk rfl
      have lt1 := (Array.getElem?_eq_some_iff.1 l1).1
      have l2 : (Wa.putObj (w.heap.size + 1) (.loop { R .ready with state := .busy })).heap[w.heap.size + 1]? = some (.loop { R .ready with state := .busy }) := World.putObj_heap_same lt1
      have z2 : (Wa.putObj (w.heap.size + 1) (.loop { R .ready with state := .busy })).heap[w.heap.size]? = some (.deferred (some [])) := (World.putObj_heap_other (by omega)).trans z1
      have i2 : I M pre (Wa.putObj (w.heap.size + 1) (.loop { R .ready with state := .busy })) := hI M _ _ _ _ i1 (grownBy_putObj' _ _ _) (fun r e => by cases e; exact ⟨by omega, .inr ⟨_, l1, rfl⟩⟩)
      refine ⟨_, run_beginRound l1 (by rw [hR]), wpIn_mono (hb _ (grownBy_putObj' _ _ _) i2 ⟨_, l2⟩) ?_⟩
      intro e a3 W3 hp
      cases e with
      | normal =>
        obtain ⟨k3, d3, i3⟩ := hp
        have l3 := k3.same _ _ (by omega) l2 rfl
        have z3 := k3.same _ _ (Nat.le_refl _) z2 rfl
        have lt3 := (Array.getElem?_eq_some_iff.1 l3).1
        have er := run_endRound (P := P) none l3
        refine ⟨_, _, er, rfl, ⟨hI M _ _ _ _ i3 (grownBy_putObj' _ _ _) (fun r e => by cases e; exact ⟨by omega, .inr ⟨_, l3, rfl⟩⟩), ?_, ?_⟩, ?_⟩
        · rw [World.putObj_heap_same lt3]; simp [hR]
        · exact (World.putObj_heap_other (by omega)).trans z3
        · rw [s1]
          exact ((d1.trans (LeavesIn.putObj l1 rfl (by omega))).trans d3).trans (LeavesIn.putObj l3 rfl (by omega))
      | ret => exact hp.elim
      | exit id => exact hp.elim
      | goto t => exact hp.elim
      | panic ch => exact hp.elim
      | outgrown => exact hp.elim
    | ret => exact h.elim
    | exit id => exact h.elim
    | goto t => exact h.elim
    | panic ch => exact h.elim
    | outgrown => exact h.elim
  · intro W' hW'
    rw [s1] at hW'
    refine ⟨h0 _ (bw.trans (hW'.mono (by omega))), ?_, ?_⟩
    · exact (hW'.block _ (by omega)).trans e1
    · exact (hW'.block _ (by omega)).trans e0
  · rintro e W2 ⟨⟨v, rfl⟩, M, xs, hS, hi, hl, hk⟩
    have el := run_endLoop (P := P) hl (by rw [hR]; simp)
    rw [hR] at el
    exact ⟨none, _, el, hdone _ M xs _ (Nat.le_refl _) hS (hI M _ _ _ _ hi (grownBy_putObj' _ _ _) (fun r e => by cases e; exact ⟨by omega, .inr ⟨_, hl, rfl⟩⟩)) ((World.putObj_heap_other (by omega)).trans hk)⟩
end Go.Proofs.Ytmelknodmbdhpaa
namespace Go.Proofs.Ytmelknodmbdhpaa
open Go.RowKit Go.Shelf
attribute [local go_sem] Oper.semAt_some
/-- domain.All hands back a closure over a box of the domain -/
theorem all2_in (n : Nat) (v : Value) (k s h : Int) (w : World) :
    CallsIn Fence.wide n Try.prog 156 #[.agg #[v, .int .i64 k, .int .i64 s, .int .i64 h]] w fun e w' => e = .returned (.func (.func 179) #[] #[.pointer (some ⟨w.heap.size, 0, none⟩)]) ∧ w' = w.alloc (.cells #[v, .int .i64 k, .int .i64 s, .int .i64 h] 62) := by
  refine callsIn_of_wp Try.func156 rfl trivial ?_ rfl
  simp only [Try.ntmps156, List.size_toArray, List.length_cons, List.length_nil, Nat.reduceAdd, Nat.reduceSub, Array.replicate_succ, Array.replicate_zero, List.push_toArray, List.append_toArray, List.nil_append, List.cons_append]
  gi_wp2
  go_ret
  exact ⟨rfl, rfl⟩
/-- the pairs of two lists, row by row -/
def flatE (Y pa : List Int) : List (Int × Int) := pa.flatMap fun a => Y.map fun b => (a, b)
theorem flatE_snoc (Y pa : List Int) (a : Int) : flatE Y (pa ++ [a]) = flatE Y pa ++ Y.map fun b => (a, b) := by
  unfold flatE; simp
theorem flatE_len (Y pa : List Int) : (flatE Y pa).length = pa.length * Y.length := by
  unfold flatE
  induction pa with
  | nil => simp
  | cons a pa ih => rw [List.flatMap_cons, List.length_append, ih]; simp [Nat.add_mul, Nat.add_comm]
/-- with their positions -/
def numE (l : List (Int × Int)) : List (Nat × Int × Int) := l.zipIdx.map fun p => (p.2, p.1)
theorem numE_len (l : List (Int × Int)) : (numE l).length = l.length := by unfold numE; simp
theorem numE_snoc (l : List (Int × Int)) (p : Int × Int) : numE (l ++ [p]) = numE l ++ [(l.length, p)] := by
  unfold numE
  rw [List.zipIdx_append, List.map_append]
  simp
/-- the dimensions, and one of the single number 0 behind them -/
def dimsX (L : List R3) : List R3 := L ++ [(0, 0, 1)]
def fstR (L : List R3) : R3 := ((dimsX L)[0]?).getD (0, 0, 1)
def sndR (L : List R3) : R3 := ((dimsX L)[1]?).getD (0, 0, 1)
/-- the indices of a domain, in order -/
def domE (L : List R3) : List (Int × Int) := flatE (numsL (sndR L).1 (sndR L).2.1 (sndR L).2.2) (numsL (fstR L).1 (fstR L).2.1 (fstR L).2.2)
theorem dim_facts {L : List R3} {k s h : Int} (c : dchk L k s h = 0) :
    (dimsX L)[0]? = some (fstR L) ∧ (dimsX L)[1]? = some (sndR L) ∧ chk (fstR L).1 (fstR L).2.1 (fstR L).2.2 = 0 ∧ chk (sndR L).1 (sndR L).2.1 (sndR L).2.2 = 0 ∧
      siz (fstR L).1 (fstR L).2.1 (fstR L).2.2 * siz (sndR L).1 (sndR L).2.1 (sndR L).2.2 = prodL L := by
  have z1 : chk 0 0 1 = 0 := by decide
  have z2 : siz 0 0 1 = 1 := by decide
  have up := (dchk_zero c).2.2
  have rk := dchk_rank c
  match L, rk, up with
  | [x], _, up => exact ⟨rfl, rfl, (up x (by simp)).1, z1, by simp [fstR, sndR, dimsX, prodL, z2]⟩
  | [x, y], _, up => exact ⟨rfl, rfl, (up x (by simp)).1, (up y (by simp)).1, by simp [fstR, sndR, dimsX, prodL]⟩
theorem at_alloc {W : World} {k : Nat} {o : Obj} (h : W.heap[k]? = some o) (p : Obj) : (W.alloc p).heap[k]? = some o := (Below.heap_alloc W p k (Array.getElem?_eq_some_iff.1 h).1).trans h
theorem grownBy_setCell_at (W : World) (b o : Nat) (v : Value) : W.grownBy (W.setCell ⟨b, o, none⟩ v) (some b) :=
  ⟨rfl, rfl, rfl, by simp, fun k _ hk => Below.heap_setCell W ⟨b, o, none⟩ v k (fun e => hk (by rw [e]))⟩
/-- the iterator's blocks between two rounds -/
structure AllI (J : Nat → List (Nat × Int × Int) → World → Prop) (B M ir kb : Nat) (w4 : World) (l : List (Int × Int)) (W : World) : Prop where
  j : J M (numE l) W
  same : ∀ k, B ≤ k → k < M → k ≠ ir → k ≠ kb → W.heap[k]? = w4.heap[k]?
  row : ∃ c0 c1, RowB W ir [c0, c1]
  k : Boxed W kb 3 (.int .i64 (l.length : Nat))
  size : M ≤ W.heap.size
theorem AllI.grown {J : Nat → List (Nat × Int × Int) → World → Prop} {B M ir kb : Nat} {w4 : World} {l : List (Int × Int)} {W W' : World} {row : Option Nat} (t : AllI J B M ir kb w4 l W) (hJ : ∀ M, AbidesIn B M (J M)) (hi : ir < M) (hk : kb < M)
    (hBM : B ≤ M) (hg : W.grownBy W' row) (hr : ∀ r, row = some r → M ≤ r ∧ ∃ o : Obj, W.heap[r]? = some o ∧ o.isCells = false) : AllI J B M ir kb w4 l W' := by
  have ne : ∀ k, k < M → some k ≠ row := fun k h e => by have := (hr k e.symm).1; omega
  have sz := t.size
  refine ⟨hJ M _ _ _ _ t.j hg (fun r e => ⟨by have := (hr r e).1; omega, .inr (hr r e).2⟩), fun k a b c d => (hg.block k (by omega) (ne k b)).trans (t.same k a b c d), ?_, (hg.block kb (by omega) (ne kb hk)).trans t.k, Nat.le_trans sz hg.size⟩
  obtain ⟨c0, c1, h⟩ := t.row
  exact ⟨c0, c1, (hg.block ir (by omega) (ne ir hi)).trans h⟩
theorem AllI.alloc {J : Nat → List (Nat × Int × Int) → World → Prop} {B M ir kb : Nat} {w4 : World} {l : List (Int × Int)} {W : World} (t : AllI J B M ir kb w4 l W) (hJ : ∀ M, AbidesIn B M (J M)) (hi : ir < M ∧ B ≤ M) (hk : kb < M) (o : Obj) : AllI J B M ir kb w4 l (W.alloc o) :=
  t.grown hJ hi.1 hk hi.2 (World.grownBy_alloc W o none) (fun r e => by cases e)
theorem allI_own {β : Type} {J : Nat → List (Nat × Int × Int) → World → Prop} {B B' M ir kb : Nat} {w4 : World} (f : β → List (Int × Int)) (hJ : ∀ M, AbidesIn B M (J M)) (hi : ir < M ∧ B ≤ M) (hk : kb < M) (hB : M ≤ B') :
    OwnFrom B' (fun s W => AllI J B M ir kb w4 (f s) W) := fun _ _ _ _ t hg hr => t.grown hJ hi.1 hk hi.2 hg (fun r e => ⟨by have := (hr r e).1; omega, (hr r e).2⟩)
/-- a store into the index -/
theorem AllI.put {J : Nat → List (Nat × Int × Int) → World → Prop} {B M ir kb : Nat} {w4 : World} {l : List (Int × Int)} {W : World} (t : AllI J B M ir kb w4 l W) (hJ : ∀ M, AbidesIn B M (J M)) (hi : B ≤ ir ∧ ir < M) (hne : kb ≠ ir) (o : Nat) (u : Int) :
    AllI J B M ir kb w4 l (W.setCell ⟨ir, o, none⟩ (.int .i64 u)) := by
  have hb := fun k (h : k ≠ ir) => Below.heap_setCell W ⟨ir, o, none⟩ (.int .i64 u) k h
  refine ⟨hJ M _ _ _ _ t.j (grownBy_setCell_at W ir o _) (fun r e => by cases e; exact ⟨hi.1, .inl hi.2⟩), fun k a b c d => (hb k c).trans (t.same k a b c d), ?_, (hb kb hne).trans t.k, by simpa using t.size⟩
  obtain ⟨c0, c1, h⟩ := t.row
  have h2 := h.set o u
  match o with
  | 0 => exact ⟨_, _, h2⟩
  | 1 => exact ⟨_, _, h2⟩
  | o + 2 => exact ⟨c0, c1, by simpa using h2⟩
theorem kq_put {W : World} {g o : Nat} {R : List Int} {v : Value} (h : RowB W g R) : Kq W (W.setCell ⟨g, o, none⟩ v) := fun k c t fr ht hk =>
  (Below.heap_setCell W ⟨g, o, none⟩ v k (fun e => by
    rw [e, show W.heap[g]? = _ from h] at hk
    cases hk; rcases ht with ht | ht <;> revert ht <;> decide)).trans hk
/-- a round, and the position's number -/
theorem AllI.next {J : Nat → List (Nat × Int × Int) → World → Prop} {B M ir kb : Nat} {w4 : World} {l : List (Int × Int)} {p : Int × Int} {W W' : World} (t : AllI J B M ir kb w4 l W) (hJ : ∀ M, AbidesIn B M (J M)) (hi : B ≤ ir ∧ ir < M) (hk : B ≤ kb ∧ kb < M) (hne : kb ≠ ir)
    (j : J M (numE l ++ [(l.length, p)]) W') (h : LeavesIn B M W W') : AllI J B M ir kb w4 (l ++ [p]) (W'.setCell ⟨kb, 0, none⟩ (.int .i64 ((l.length : Nat) + 1))) ∧ Boxed W' kb 3 (.int .i64 (l.length : Nat)) := by
  have hb := fun k (h : k ≠ kb) => Below.heap_setCell W' ⟨kb, 0, none⟩ (.int .i64 ((l.length : Nat) + 1)) k h
  have k1 : Boxed W' kb 3 (.int .i64 (l.length : Nat)) := (h.own kb hk.1 hk.2).trans t.k
  refine ⟨⟨?_, fun k a b c d => (hb k d).trans ((h.own k a b).trans (t.same k a b c d)), ?_, ?_, ?_⟩, k1⟩
  · rw [numE_snoc]
    exact hJ M _ _ _ _ j (grownBy_setCell_at W' kb 0 _) (fun r e => by cases e; exact ⟨hk.1, .inl hk.2⟩)
  · obtain ⟨c0, c1, hr⟩ := t.row
    exact ⟨c0, c1, (hb ir hne.symm).trans ((h.own ir hi.1 hi.2).trans hr)⟩
  · have e : (.int .i64 (((l ++ [p]).length : Nat) : Int) : Value) = .int .i64 ((l.length : Nat) + 1) := by simp
    rw [e]; exact k1.set _
  · have := t.size
    have := h.kf.size
    simp; omega
theorem kq_box {W : World} {g : Nat} {u v : Value} (h : Boxed W g 3 u) : Kq W (W.setCell ⟨g, 0, none⟩ v) := fun k c t fr ht hk =>
  (Below.heap_setCell W ⟨g, 0, none⟩ v k (fun e => by
    rw [e, show W.heap[g]? = _ from h] at hk
    cases hk; rcases ht with ht | ht <;> revert ht <;> decide)).trans hk
theorem ownFrom_kq {β : Type} {B : Nat} {w0 : World} : OwnFrom B (fun (_ : β) W => Kq w0 W) := fun _ X Y row hs hg hr k c t fr ht hk => by
  have hX := hs k c t fr ht hk
  refine (hg.block k (Array.getElem?_eq_some_iff.1 hX).1 (fun e => ?_)).trans hX
  obtain ⟨_, o, ho, hc⟩ := hr k e.symm
  rw [hX] at ho; cases ho; cases hc
theorem bound_mul {a b m n : Nat} (ha : a < m) (hb : b < n) : a * n + b < m * n :=
  Nat.lt_of_lt_of_le (Nat.add_lt_add_left hb _) (by rw [← Nat.succ_mul]; exact Nat.mul_le_mul_right _ ha)
theorem roundIn_w {l2 m m' : Nat} {P : Program} {l : Nat} {f : FuncId} {tmps : Array Value} {assign body : Code} {w : World} {R : Ending → World → Prop} (h : RoundIn Fence.wide m' P l f tmps assign body w R) : RoundIn (Fence.wide.inRound l2) m P l f tmps assign body w R :=
  ⟨h.1, fun c cs _ => h.2 c cs (room_wide _)⟩
set_option maxRecDepth 100000 in
set_option maxHeartbeats 6400000 in
theorem dall1_in (n : Nat) (hn : 20 ≤ n) (l' Bn : Nat) (v : Value) (L : List R3) (k s h : Int) (W : World) (hr : Rd W v L) (hL : Ok3 L) (hB : W.heap[Bn]? = some (.cells #[v, .int .i64 k, .int .i64 s, .int .i64 h] 62 (0, 0)))
    (c : dchk L k s h = 0) (pz : ¬ prodL L = 0) (J : Nat → List (Nat × Int × Int) → World → Prop) (hJ : ∀ M, AbidesIn W.heap.size M (J M))
    (hY : ∀ M pre x W1, J M pre W1 → x.1 = pre.length ∧ pre.length < (prodL L).toNat → YieldAt Fence.wide (n - 1) Try.prog l' #[.int .i64 (x.1 : Nat), .agg #[.int .i64 x.2.1, .int .i64 x.2.2]] W1 fun e W' => e = .returned (.bool true) ∧ J M (pre ++ [x]) W' ∧ LeavesIn W.heap.size M W1 W')
    (h0 : ∀ W', Below W.heap.size W W' → J W'.heap.size [] W') :
    CallsIn Fence.wide n Try.prog 179 #[.func (.yield l') #[] #[], .pointer (some ⟨Bn, 0, none⟩)] W fun e W' => (∃ v, e = .returned v) ∧ ∃ M xs, xs = numE (domE L) ∧ J M xs W' := by
  have HL := Lib.hid hL
  have HJ := Lib.hid hJ
  have HY := Lib.hid hY
  have H0 := Lib.hid h0
  have rk := Lib.hid (dchk_rank c)
  obtain ⟨ao, cap, rfl, hc⟩ := hr
  have HR : Hid (Rd W (.slice ao L.length cap) L) := Lib.hid ⟨ao, cap, rfl, hc⟩
  obtain ⟨b, o, rfl, hb, ca⟩ := hc.resolve_left (by have := rk.out; omega)
  have CA : Hid (At3 W b o L) := Lib.hid ca
  have lt : Bn < W.heap.size := (Array.getElem?_eq_some_iff.1 hB).1
  have HB := Lib.hid hB
  have EZ : Hid (dsiz L k s h = prodL L) := Lib.hid (by unfold dsiz; rw [if_pos c])
  have pz' : (prodL L == 0) = false := by simp [pz]
  have ln : L.length ≤ 2 := by have := rk.out; omega
  obtain ⟨i0, hi, hz0, hz1, hz2⟩ := info_parts Try.infoRange
  have DF := Lib.hid (dim_facts c)
  have PB := Lib.hid (prodL_bd L)
  clear hJ hY h0 hc ca hL hB c pz
  refine callsIn_of_wp_marks Try.func179 rfl trivial ?_ rfl
  simp only [Try.ntmps179, List.size_toArray, List.length_cons, List.length_nil, Nat.reduceAdd, Nat.reduceSub, Array.replicate_succ, Array.replicate_zero, List.push_toArray, List.append_toArray, List.nil_append, List.cons_append]
  refine wpIn_wide.2 ?_
  have x0 := fun ob => ((below_new W ob).cell (p := ⟨Bn, 0, none⟩) lt).trans (row4 HB.out).1
  have x1 := fun ob => ((below_new W ob).cell (p := ⟨Bn, 1, none⟩) lt).trans (row4 HB.out).2.1
  have x2 := fun ob => ((below_new W ob).cell (p := ⟨Bn, 2, none⟩) lt).trans (row4 HB.out).2.2.1
  have x3 := fun ob => ((below_new W ob).cell (p := ⟨Bn, 3, none⟩) lt).trans (row4 HB.out).2.2.2
  go_wp2_with fail
  refine (Dsize_any _ L k s h _ (HR.out.keep (below_new _ _)) HL.out).mono ?_
  rintro e w1 ⟨rfl, hb1⟩
  rw [EZ.out]
  have Y1 : Hid (Boxed w1 W.heap.size 166 (.func (.yield l') #[] #[])) := Lib.hid (heap_keep (Boxed.new W _ _) hb1)
  have B1 : Hid (Below W.heap.size W w1) := Lib.hid (((Below.refl _ W).alloc (Nat.le_refl _) _).trans (hb1.mono (by simp)))
  clear hb1 x0 x1 x2 x3
  have x0 := (B1.out.cell (p := ⟨Bn, 0, none⟩) lt).trans (row4 HB.out).1
  have y1 := Y1.out.lt
  go_wp2_with fail
  refine (cloneR_any b o cap L w1 (Nat.lt_of_lt_of_le hb B1.out.size) (Lib.hid (CA.out.under B1.out hb)) (by omega)).mono ?_
  rintro e w2 ⟨cv, rfl, o2, hb2⟩
  obtain ⟨oc, cc, rfl⟩ := owns_slice o2.out
  have Y2 := Lib.hid (heap_keep Y1.out hb2)
  have B2 : Hid (Below W.heap.size W w2) := Lib.hid (B1.out.trans (hb2.mono B1.out.size))
  have s2 := hb2.size
  clear hb2 Y1 B1 x0
  go_wp2_with (first | (at_builtin; refine wpList_append_own _ rfl (.tmp 11) (.tmp 13) 40 rfl w1.heap.size 23 i0 (.agg #[.int .i64 0, .int .i64 0, .int .i64 0]) 3 24 Try.underlying40 hi hz0 hz1 hz2 rfl (by decide) _ L.length (cells3 L) rfl (o2.out.alloc _) ⟨w2.heap.size, 0, none⟩ 1 1 (cells3 [(0, 0, 1)]) rfl rfl ?c1 ?c2 ?c3 ?c4 ?c5 ?_))
  case c1 => exact World.news_of_block (cs := #[.int .i64 0, .int .i64 0, .int .i64 1]) (t := 23) (fr := (0, 0)) (heap_alloc_new w2 _)
  case c2 => exact cells3_one _
  case c3 => unfold maxLen; omega
  case c4 => omega
  case c5 => simp; omega
  intro v3 w3 own3 grow3 _
  obtain ⟨rg, cap3, rfl⟩ := ownsRow_succ own3
  have HO3 := Lib.hid own3
  have b3 : Below w1.heap.size w2 w3 := (below_new w2 (.cells #[.int .i64 0, .int .i64 0, .int .i64 1] 23) |>.mono (by omega)).trans ((Below.refl _ _).grown grow3 (by simp; omega) (fun g hg => ((o2.out.alloc (.cells #[.int .i64 0, .int .i64 0, .int .i64 1] 23)).lt g hg).1))
  have Y3 := Lib.hid ((b3.block _ y1).trans Y2.out)
  have B3 : Hid (Below W.heap.size W w3) := Lib.hid (B2.out.trans (b3.mono (by omega)))
  have s3 := b3.size
  clear own3 grow3 b3 Y2 B2 o2
  go_upto_region 4 with fail
  have rx : At3 w3 rg 0 (dimsX L) := by
    have e : (dimsX L).length = L.length + 1 := by unfold dimsX; simp
    have hown : w3.ownsRow w1.heap.size 23 3 (.slice (some ⟨rg, 0, none⟩) (dimsX L).length cap3) (dimsX L).length (cells3 (dimsX L)) := by
      rw [e]; unfold dimsX; rw [cells3_append]; exact HO3.out
    obtain ⟨ao, cp, ev, hq⟩ := Rd.of_own hown
    cases ev
    obtain ⟨bq, oq, eo, _, hq⟩ := hq.resolve_left (by omega)
    cases eo
    exact hq
  have lrg : rg < w3.heap.size := (HO3.out.lt rg rfl).2
  have n4 : Below w3.heap.size w3 ((((w3.alloc (.cells #[.slice (some ⟨rg, 0, none⟩) (L.length + 1) cap3] 40)).alloc (.cells #[.int .i64 0, .int .i64 0] 3)).alloc (.cells #[.slice (some ⟨w3.heap.size + 1, 0, none⟩) 2 2] 48)).alloc (.cells #[.int .i64 0] 3)) := ((((Below.refl _ w3).alloc (Nat.le_refl _) _).alloc (by simp) _).alloc (by simp; omega) _).alloc (by simp; omega) _
  have RX : Hid (At3 ((((w3.alloc (.cells #[.slice (some ⟨rg, 0, none⟩) (L.length + 1) cap3] 40)).alloc (.cells #[.int .i64 0, .int .i64 0] 3)).alloc (.cells #[.slice (some ⟨w3.heap.size + 1, 0, none⟩) 2 2] 48)).alloc (.cells #[.int .i64 0] 3)) rg 0 (dimsX L)) := Lib.hid (rx.under n4 lrg)
  have Y4 := Lib.hid (heap_keep Y3.out n4)
  have B4 : Hid (Below W.heap.size W ((((w3.alloc (.cells #[.slice (some ⟨rg, 0, none⟩) (L.length + 1) cap3] 40)).alloc (.cells #[.int .i64 0, .int .i64 0] 3)).alloc (.cells #[.slice (some ⟨w3.heap.size + 1, 0, none⟩) 2 2] 48)).alloc (.cells #[.int .i64 0] 3))) := Lib.hid (B3.out.trans (n4.mono B3.out.size))
  have D4 : Hid (Boxed ((((w3.alloc (.cells #[.slice (some ⟨rg, 0, none⟩) (L.length + 1) cap3] 40)).alloc (.cells #[.int .i64 0, .int .i64 0] 3)).alloc (.cells #[.slice (some ⟨w3.heap.size + 1, 0, none⟩) 2 2] 48)).alloc (.cells #[.int .i64 0] 3)) w3.heap.size 40 (.slice (some ⟨rg, 0, none⟩) (L.length + 1) cap3)) := Lib.hid (at_alloc (at_alloc (at_alloc (heap_alloc_new w3 _) _) _) _)
  have iR := at_alloc (at_alloc (heap_alloc_new (w3.alloc (.cells #[.slice (some ⟨rg, 0, none⟩) (L.length + 1) cap3] 40)) (.cells #[.int .i64 0, .int .i64 0] 3)) (.cells #[.slice (some ⟨w3.heap.size + 1, 0, none⟩) 2 2] 48)) (.cells #[.int .i64 0] 3)
  have iB := at_alloc (heap_alloc_new ((w3.alloc (.cells #[.slice (some ⟨rg, 0, none⟩) (L.length + 1) cap3] 40)).alloc (.cells #[.int .i64 0, .int .i64 0] 3)) (.cells #[.slice (some ⟨w3.heap.size + 1, 0, none⟩) 2 2] 48)) (.cells #[.int .i64 0] 3)
  have kB := heap_alloc_new (((w3.alloc (.cells #[.slice (some ⟨rg, 0, none⟩) (L.length + 1) cap3] 40)).alloc (.cells #[.int .i64 0, .int .i64 0] 3)).alloc (.cells #[.slice (some ⟨w3.heap.size + 1, 0, none⟩) 2 2] 48)) (.cells #[.int .i64 0] 3)
  simp only [World.size_alloc] at iR iB kB
  have IR : Hid (RowB ((((w3.alloc (.cells #[.slice (some ⟨rg, 0, none⟩) (L.length + 1) cap3] 40)).alloc (.cells #[.int .i64 0, .int .i64 0] 3)).alloc (.cells #[.slice (some ⟨w3.heap.size + 1, 0, none⟩) 2 2] 48)).alloc (.cells #[.int .i64 0] 3)) (w3.heap.size + 1) [0, 0]) := Lib.hid iR
  have IB : Hid (Boxed ((((w3.alloc (.cells #[.slice (some ⟨rg, 0, none⟩) (L.length + 1) cap3] 40)).alloc (.cells #[.int .i64 0, .int .i64 0] 3)).alloc (.cells #[.slice (some ⟨w3.heap.size + 1, 0, none⟩) 2 2] 48)).alloc (.cells #[.int .i64 0] 3)) (w3.heap.size + 1 + 1) 48 (.slice (some ⟨w3.heap.size + 1, 0, none⟩) 2 2)) := Lib.hid iB
  have KB : Hid (Boxed ((((w3.alloc (.cells #[.slice (some ⟨rg, 0, none⟩) (L.length + 1) cap3] 40)).alloc (.cells #[.int .i64 0, .int .i64 0] 3)).alloc (.cells #[.slice (some ⟨w3.heap.size + 1, 0, none⟩) 2 2] 48)).alloc (.cells #[.int .i64 0] 3)) (w3.heap.size + 1 + 1 + 1) 3 (.int .i64 0)) := Lib.hid kB
  have m4 : w3.heap.size + 4 ≤ ((((w3.alloc (.cells #[.slice (some ⟨rg, 0, none⟩) (L.length + 1) cap3] 40)).alloc (.cells #[.int .i64 0, .int .i64 0] 3)).alloc (.cells #[.slice (some ⟨w3.heap.size + 1, 0, none⟩) 2 2] 48)).alloc (.cells #[.int .i64 0] 3)).heap.size := by simp
  have J4 := Lib.hid (H0.out _ B4.out)
  have z3 : W.heap.size ≤ w3.heap.size := B3.out.size
  have zr : W.heap.size ≤ rg := Nat.le_trans (Nat.le_trans (Nat.le_of_lt (Nat.lt_succ_self _)) y1) (HO3.out.lt rg rfl).1
  have zy : W.heap.size < w3.heap.size := (Array.getElem?_eq_some_iff.1 Y3.out).1
  clear iR iB kB n4 rx Y3 B3 HO3 s2 s3 y1 HB lt hb CA HR HL EZ
  generalize (((w3.alloc (.cells #[.slice (some ⟨rg, 0, none⟩) (L.length + 1) cap3] 40)).alloc (.cells #[.int .i64 0, .int .i64 0] 3)).alloc (.cells #[.slice (some ⟨w3.heap.size + 1, 0, none⟩) 2 2] 48)).alloc (.cells #[.int .i64 0] 3) = w4 at *
  generalize w3.heap.size = db at *
  obtain ⟨xl, xh, xt, hX⟩ : ∃ p q r, fstR L = (p, q, r) := ⟨_, _, _, rfl⟩
  obtain ⟨yl, yh, yt, hY'⟩ : ∃ p q r, sndR L = (p, q, r) := ⟨_, _, _, rfl⟩
  have DE : Hid (domE L = flatE (numsL yl yh yt) (numsL xl xh xt)) := Lib.hid (by unfold domE; rw [hX, hY'])
  rw [hX, hY'] at DF
  clear hX hY'
  have p := RX.out 0 _ DF.out.1
  have q := RX.out 1 _ DF.out.2.1
  have p0 : w4.cell? ⟨rg, 0, none⟩ = some (.int .i64 xl) := by simpa using p.1
  have p1 : w4.cell? ⟨rg, 1, none⟩ = some (.int .i64 xh) := by simpa using p.2.1
  have p2 : w4.cell? ⟨rg, 2, none⟩ = some (.int .i64 xt) := by simpa using p.2.2
  have Q0 : Hid (w4.cell? ⟨rg, 3, none⟩ = some (.int .i64 yl) ∧ w4.cell? ⟨rg, 4, none⟩ = some (.int .i64 yh) ∧ w4.cell? ⟨rg, 5, none⟩ = some (.int .i64 yt)) := Lib.hid ⟨by simpa using q.1, by simpa using q.2.1, by simpa using q.2.2⟩
  have HKX := Lib.hid DF.out.2.2.1
  have HKY := Lib.hid DF.out.2.2.2.1
  have PM := Lib.hid DF.out.2.2.2.2
  have c3 := D4.out.cell
  have l0 : 0 < L.length := by have := rk.out; omega
  clear p q RX DF
  go_wp2_with fail
  refine (callsIn_wide.1 (all_in 0 xl xh xt w4)).mono ?_
  rintro e w5 ⟨rfl, rfl⟩
  have BR : Hid ((w4.alloc (.cells #[.int .i64 xl, .int .i64 xh, .int .i64 xt] 23)).heap[w4.heap.size]? = some (.cells #[.int .i64 xl, .int .i64 xh, .int .i64 xt] 23 (0, 0))) := Lib.hid (heap_alloc_new w4 _)
  have s5 : w4.heap.size < (w4.alloc (.cells #[.int .i64 xl, .int .i64 xh, .int .i64 xt] 23)).heap.size := by simp
  have A5 : Hid (AllI J W.heap.size w4.heap.size (db + 1) (db + 1 + 1 + 1) w4 [] (w4.alloc (.cells #[.int .i64 xl, .int .i64 xh, .int .i64 xt] 23))) := Lib.hid (by
    refine AllI.alloc ⟨J4.out, fun _ _ _ _ _ => rfl, ⟨_, _, IR.out⟩, KB.out, Nat.le_refl _⟩ HJ.out (by omega) (by omega) _)
  clear p0 p1 p2 c3
  generalize w4.alloc (.cells #[.int .i64 xl, .int .i64 xh, .int .i64 xt] 23) = w5 at *
  go_upto_block 0 with fail
  refine (wpIn_wide (n := n)).1 ?_
  gi_wp2_with fail
  have hJ := HJ.out
  refine wpIn_rangeFunc_ownH (F := Fence.wide) rfl (by omega) (gf := 162) (lb := #[.pointer (some ⟨w4.heap.size, 0, none⟩)]) rfl trivial (enters_of Try.func162 (by kernel_rfl) rfl)
    (all_stops (n - 1) (by omega) w4.heap.size xl xh xt w5 HKX BR) kq_trans (fun W l o o' _ hl ho _ => kq_b W l o o' hl ho) (Below.refl _ _) (fun _ => rfl)
    (fun (pre : List Int) W' => AllI J W.heap.size w4.heap.size (db + 1) (db + 1 + 1 + 1) w4 (flatE (numsL yl yh yt) pre) W')
    (fun _ _ _ => False)
    (allI_own _ hJ ⟨by omega, by omega⟩ (by omega) (by omega))
    (fun _ _ _ _ _ hs _ _ => hs)
    A5.out
    (fun x a' W' => (∃ c1, RowB W' (db + 1) [x, c1]) ∧ a' = { tmps := #[.func (.yield l') #[] #[], .pointer (some ⟨Bn, 0, none⟩), .pointer (some ⟨W.heap.size, 0, none⟩), .pointer (some ⟨db, 0, none⟩), .pointer (some ⟨db + 1 + 1, 0, none⟩), .pointer (some ⟨db + 1 + 1 + 1, 0, none⟩), .agg #[.slice (some ⟨b, o, none⟩) L.length cap, .int .i64 k, .int .i64 s, .int .i64 h], .int .i64 (prodL L), .bool false, .pointer (some ⟨Bn, 0, none⟩), .slice (some ⟨b, o, none⟩) L.length cap, .slice oc L.length cc, .agg #[.int .i64 0, .int .i64 0, .int .i64 1], .slice (some ⟨w2.heap.size, 0, none⟩) 1 1, .slice (some ⟨rg, 0, none⟩) (L.length + 1) cap3, .slice (some ⟨db + 1, 0, none⟩) 2 2, .slice (some ⟨rg, 0, none⟩) (L.length + 1) cap3, .pointer (some ⟨rg, 0, none⟩), .agg #[.int .i64 xl, .int .i64 xh, .int .i64 xt], .func (.func 162) #[] #[.pointer (some ⟨w4.heap.size, 0, none⟩)], .int .i64 x, .slice (some ⟨db + 1, 0, none⟩) 2 2, .pointer (some ⟨db + 1, 0, none⟩), undef, undef, undef, undef, undef, undef, undef, undef, undef, undef, undef, undef, undef, undef, undef, undef], defers := [] })
    (fun x a' _ X Y row hs hg hr => by
      obtain ⟨⟨c1, h1⟩, h2⟩ := hs
      exact ⟨⟨c1, rowB_own (db + 1) (fun (_ : Unit) => [x, c1]) () X Y row h1 hg (fun r e => (hr r e).2)⟩, h2⟩)
    ?assign ?body ?done ?stop
  case assign =>
    rintro l pre x W' K hi hK
    have HI := Lib.hid hi
    have HK := Lib.hid hK
    clear hi hK
    obtain ⟨c0, c1, hrow⟩ := HI.out.row
    have r0 := hrow.cell (j := 0) rfl
    have fz := hrow.frozen 0
    have ci := Boxed.cell (t := 48) ((HI.out.same (db + 1 + 1) (by omega) (by omega) (by omega) (by omega)).trans IB.out)
    have HR := Lib.hid hrow
    clear hrow
    gi_wp2
    refine HK.out _ _ ((KeepsOthers.setCell _ _ _).from _) (kq_put HR.out) (HI.out.put hJ ⟨by omega, by omega⟩ (by omega) 0 x) ⟨⟨c1, HR.out.set 0 x⟩, rfl⟩
  case done =>
    rintro D xs W' hD rfl hi hK
    have HI := Lib.hid hi
    have HK := Lib.hid hK
    clear hi hK
    gi_wp2
    refine ⟨by simp, .inl ⟨_, _, rfl, run_takeDeferred HK.out, ?_⟩⟩
    refine ⟨_, results_none rfl _ _ _, ⟨_, rfl⟩, w4.heap.size, _, rfl, ?_⟩
    rw [DE.out]
    exact hJ _ _ _ _ _ HI.out.j (grownBy_putObj' _ _ _) (fun r e => by cases e; exact ⟨by omega, .inr ⟨_, HK.out, rfl⟩⟩)
  case stop =>
    rintro D cd pre W' _ _ h' _
    exact h'.elim
  case body =>
    rintro l pre x a' W' hl ⟨r, hr⟩ hi ⟨⟨c1, hrow⟩, rfl⟩ hlt
    have HI := Lib.hid hi
    have HW := Lib.hid hrow
    have HLR := Lib.hid hr
    clear hi hrow hr
    have cd := Boxed.cell (t := 40) ((HI.out.same db (by omega) (by omega) (by omega) (by omega)).trans D4.out)
    have crg : W'.heap[rg]? = w4.heap[rg]? := HI.out.same rg (by omega) (by omega) (by omega) (by omega)
    have e0 : ∀ ob, W'.cell? ⟨rg, ob, none⟩ = w4.cell? ⟨rg, ob, none⟩ := fun ob => by simp [World.cell?, crg]
    have q0 := (e0 3).trans Q0.out.1
    have q1 := (e0 4).trans Q0.out.2.1
    have q2 := (e0 5).trans Q0.out.2.2
    have z5 := HI.out.size
    clear crg e0
    dsimp only
    gi_wp2_with fail
    refine ⟨trivial, fun _ => by omega, ?_⟩
    refine (CallsIn.inRound l (all_in _ yl yh yt W')).mono ?_
    rintro e w' ⟨rfl, rfl⟩
    have BR6 : Hid ((W'.alloc (.cells #[.int .i64 yl, .int .i64 yh, .int .i64 yt] 23)).heap[W'.heap.size]? = some (.cells #[.int .i64 yl, .int .i64 yh, .int .i64 yt] 23 (0, 0))) := Lib.hid (heap_alloc_new W' _)
    have LR6 := Lib.hid (at_alloc HLR.out (.cells #[.int .i64 yl, .int .i64 yh, .int .i64 yt] 23))
    have s6 : W'.heap.size < (W'.alloc (.cells #[.int .i64 yl, .int .i64 yh, .int .i64 yt] 23)).heap.size := by simp
    have A6 := Lib.hid (HI.out.alloc hJ ⟨by omega, by omega⟩ (by omega) (.cells #[.int .i64 yl, .int .i64 yh, .int .i64 yt] 23))
    have K6 : Hid (KeepsFrom w5.heap.size W' (W'.alloc (.cells #[.int .i64 yl, .int .i64 yh, .int .i64 yt] 23))) := Lib.hid ((KeepsOthers.alloc _ _).from _)
    have Q6 : Hid (Kq W' (W'.alloc (.cells #[.int .i64 yl, .int .i64 yh, .int .i64 yt] 23))) := Lib.hid (fun _ _ _ _ _ h => at_alloc h _)
    have R6 : Hid (RowB (W'.alloc (.cells #[.int .i64 yl, .int .i64 yh, .int .i64 yt] 23)) (db + 1) [x, c1]) := Lib.hid (at_alloc HW.out _)
    clear cd q0 q1 q2 HI HW HLR
    generalize W'.alloc (.cells #[.int .i64 yl, .int .i64 yh, .int .i64 yt] 23) = W6 at *
    gi_wp2_with fail
    refine wpIn_rangeFunc_ownN (l₀ := l) (r₀ := r) rfl LR6.out (by omega) (gf := 162) (lb := #[.pointer (some ⟨W'.heap.size, 0, none⟩)]) rfl trivial (enters_of Try.func162 (by kernel_rfl) rfl)
      ((all_stops (n - 1 - 1 - 1) (by omega) W'.heap.size yl yh yt W6 HKY BR6).inRound l) kq_trans (fun W l o o' _ hl ho _ => kq_b W l o o' hl ho) (Below.refl _ _) (fun _ => rfl)
      (fun (pb : List Int) W2 => AllI J W.heap.size w4.heap.size (db + 1) (db + 1 + 1 + 1) w4 (flatE (numsL yl yh yt) pre ++ pb.map (fun y => (x, y))) W2 ∧ ((∃ c1, RowB W2 (db + 1) [x, c1]) ∧ (KeepsFrom w5.heap.size W' W2 ∧ Kq W' W2)))
      (fun _ _ _ => False)
      (OwnFrom.and (allI_own _ hJ ⟨by omega, by omega⟩ (by omega) (by omega)) (OwnFrom.and (fun _ X Y row ⟨c1, h⟩ hg hr => ⟨c1, rowB_own (db + 1) (fun (_ : Unit) => [x, c1]) () X Y row h hg (fun r e => (hr r e).2)⟩) (OwnFrom.and (ownFrom_keepsFrom (by omega)) ownFrom_kq)))
      (fun _ _ _ _ _ hs _ _ => hs)
      ⟨by rw [List.map_nil, List.append_nil]; exact A6.out, ⟨c1, R6.out⟩, K6.out, Q6.out⟩
      (fun y a'' W2 => RowB W2 (db + 1) [x, y] ∧ a'' = { tmps := #[.func (.yield l') #[] #[], .pointer (some ⟨Bn, 0, none⟩), .pointer (some ⟨W.heap.size, 0, none⟩), .pointer (some ⟨db, 0, none⟩), .pointer (some ⟨db + 1 + 1, 0, none⟩), .pointer (some ⟨db + 1 + 1 + 1, 0, none⟩), .agg #[.slice (some ⟨b, o, none⟩) L.length cap, .int .i64 k, .int .i64 s, .int .i64 h], .int .i64 (prodL L), .bool false, .pointer (some ⟨Bn, 0, none⟩), .slice (some ⟨b, o, none⟩) L.length cap, .slice oc L.length cc, .agg #[.int .i64 0, .int .i64 0, .int .i64 1], .slice (some ⟨w2.heap.size, 0, none⟩) 1 1, .slice (some ⟨rg, 0, none⟩) (L.length + 1) cap3, .slice (some ⟨db + 1, 0, none⟩) 2 2, .slice (some ⟨rg, 0, none⟩) (L.length + 1) cap3, .pointer (some ⟨rg, 0, none⟩), .agg #[.int .i64 xl, .int .i64 xh, .int .i64 xt], .func (.func 162) #[] #[.pointer (some ⟨w4.heap.size, 0, none⟩)], .int .i64 x, .slice (some ⟨db + 1, 0, none⟩) 2 2, .pointer (some ⟨db + 1, 0, none⟩), .slice (some ⟨rg, 0, none⟩) (L.length + 1) cap3, .pointer (some ⟨rg, 3, none⟩), .agg #[.int .i64 yl, .int .i64 yh, .int .i64 yt], .func (.func 162) #[] #[.pointer (some ⟨W'.heap.size, 0, none⟩)], .int .i64 y, .slice (some ⟨db + 1, 0, none⟩) 2 2, .pointer (some ⟨db + 1, 1, none⟩), undef, undef, undef, undef, undef, undef, undef, undef, undef], defers := [] })
      (fun y a'' _ X Y row hs hg hr => ⟨rowB_own (db + 1) (fun (_ : Unit) => [x, y]) () X Y row hs.1 hg (fun r e => (hr r e).2), hs.2⟩)
      ?assign2 ?body2 ?done2 ?stop2
    case assign2 =>
      rintro l2 pb y W2 K ⟨hi, ⟨c2, hrow⟩, hkf, hkq⟩ hK
      have HI := Lib.hid hi
      have HK := Lib.hid hK
      have HR := Lib.hid hrow
      have HF := Lib.hid hkf
      have HQ := Lib.hid hkq
      have r0 := hrow.cell (j := 1) rfl
      have fz := hrow.frozen 1
      have ci := Boxed.cell (t := 48) ((HI.out.same (db + 1 + 1) (by omega) (by omega) (by omega) (by omega)).trans IB.out)
      clear hi hrow hkf hkq hK
      gi_wp2
      exact HK.out _ _ ((KeepsOthers.setCell _ _ _).from _) (kq_put HR.out) ⟨HI.out.put hJ ⟨by omega, by omega⟩ (by omega) 1 y, ⟨y, HR.out.set 1 y⟩, HF.out.trans ((KeepsOthers.setCell _ _ _).from _), kq_trans HQ.out (kq_put HR.out)⟩ ⟨HR.out.set 1 y, rfl⟩
    case done2 =>
      rintro ys W2 rfl ⟨hi, _, hkf, hkq⟩
      have HI := Lib.hid hi
      have HF := Lib.hid hkf
      have HQ := Lib.hid hkq
      clear hi hkf hkq
      gi_wp2
      refine ⟨HF.out, HQ.out, ?_⟩
      show AllI J W.heap.size w4.heap.size (db + 1) (db + 1 + 1 + 1) w4 (flatE (numsL yl yh yt) (pre ++ [x])) W2
      rw [flatE_snoc]
      exact HI.out
    case stop2 =>
      rintro cd pb W2 _ h'
      exact h'.elim
    case body2 =>
      rintro l2 pb y a'' W2 hl2 _ ⟨hi, _, hkf, hkq⟩ ⟨hrow, rfl⟩ hlt2
      have HI := Lib.hid hi
      have HR := Lib.hid hrow
      have HF := Lib.hid hkf
      have HQ := Lib.hid hkq
      obtain ⟨lst, hlst⟩ : ∃ lst, lst = flatE (numsL yl yh yt) pre ++ pb.map (fun y => (x, y)) := ⟨_, rfl⟩
      have HE := Lib.hid hlst
      rw [← hlst] at HI
      have LB : Hid (lst.length < (prodL L).toNat) := Lib.hid (by
        rw [hlst, List.length_append, flatE_len, List.length_map, ← PM.out, Int.toNat_mul (siz_bdn HKX.out).1 (siz_bdn HKY.out).1]
        have e : (numsL yl yh yt).length = (siz yl yh yt).toNat := numsU_length _ _ _ _
        rw [e]
        exact bound_mul hlt hlt2)
      have lb2 : (lst.length : Int) ≤ 4000004000001 := by have := LB.out; have := PB.out; omega
      clear hi hrow hkf hkq hlst
      have cy := Boxed.cell (t := 166) ((HI.out.same W.heap.size (by omega) (by omega) (by omega) (by omega)).trans Y4.out)
      have ck := HI.out.k.cell
      have ci := Boxed.cell (t := 48) ((HI.out.same (db + 1 + 1) (by omega) (by omega) (by omega) (by omega)).trans IB.out)
      have r0 := HR.out.cell (j := 0) rfl
      have r1 := HR.out.cell (j := 1) rfl
      have ID : Hid (AllI J W.heap.size w4.heap.size (db + 1) (db + 1 + 1 + 1) w4 lst W2.drew) := Lib.hid (HI.out.grown hJ (by omega) (by omega) (by omega) (row := none) ⟨rfl, rfl, rfl, Nat.le_refl _, fun _ _ _ => rfl⟩ (fun r e => by cases e))
      obtain ⟨fn, tmps, asg, bdy, hy, hR⟩ := HY.out w4.heap.size (numE lst) (lst.length, x, y) W2.drew ID.out.j ⟨(numE_len _).symm, by rw [numE_len]; exact LB.out⟩
      have hR2 := Lib.hid (roundIn_w (l2 := l2) (m := n - 1 - 1 - 1 - 1 - 1) hR)
      clear hR
      have hmx : Try.prog.follows .mixedOrders = true := by kernel_rfl
      have jw : IntKind.i64.wrap ((lst.length : Int) + 1) = (lst.length : Int) + 1 := IntWalk.i64_in _ (by omega)
      have hat : ∀ w, (Instr.arrayAt 87 (.slice (some ⟨db + 1, 0, none⟩) 2 2)).run Try.prog w = .ok (.pointer (some ⟨db + 1, 0, none⟩)) w := fun w => run_arrayAt w 87 3 2 _ 2 2 Try.underlying87 (by omega)
      dsimp only at hy ⊢
      gi_wp2_with fail
      gi_region_with_o (refine ⟨fun _ => by omega, hR2.out.mono ?_⟩; rintro e W3 ⟨rfl, hJ3, hk3⟩; have HJ3 := Lib.hid hJ3; have HK3 := Lib.hid hk3; clear hJ3 hk3)
      all_goals (
        have nx := AllI.next ID.out hJ ⟨by omega, by omega⟩ ⟨by omega, by omega⟩ (by omega) HJ3.out HK3.out
        have ck3 := nx.2.cell
        have fk3 := nx.2.frozen
        have NX := Lib.hid nx
        clear nx cy ck ci r0 r1 hy hat hmx
        gi_wp2
        have kf6 : KeepsFrom W6.heap.size W2 W3 := ⟨HK3.out.kf.size, fun k o hk h0 ho => HK3.out.kf.same k o (by omega) h0 ho⟩
        have kf5 : KeepsFrom w5.heap.size W2 W3 := ⟨HK3.out.kf.size, fun k o hk h0 ho => HK3.out.kf.same k o (by omega) h0 ho⟩
        have kq3 : Kq W2 W3 := HK3.out.kq
        refine ⟨kf6.trans ((KeepsOthers.setCell _ _ _).from _), kq_trans kq3 (kq_box NX.out.2), ?_, ⟨y, ?_⟩, (HF.out.trans kf5).trans ((KeepsOthers.setCell _ _ _).from _), kq_trans HQ.out (kq_trans kq3 (kq_box NX.out.2))⟩
        · rw [List.map_append, ← List.append_assoc, ← HE.out]; exact NX.out.1
        · exact (Below.heap_setCell W3 ⟨db + 1 + 1 + 1, 0, none⟩ _ (db + 1) (show db + 1 ≠ db + 1 + 1 + 1 by omega)).trans ((HK3.out.own (db + 1) (by omega) (by omega)).trans HR.out))
/-- domain.All's iterator, at a right domain with an index -/
theorem dall_moves (n : Nat) (hn : 20 ≤ n) (Bn : Nat) (v : Value) (L : List R3) (k s h : Int) (W : World) (hr : Rd W v L) (hL : Ok3 L) (hB : W.heap[Bn]? = some (.cells #[v, .int .i64 k, .int .i64 s, .int .i64 h] 62 (0, 0)))
    (c : dchk L k s h = 0) (pz : ¬ prodL L = 0) :
    SeqMoves Fence.wide n Try.prog 179 #[.pointer (some ⟨Bn, 0, none⟩)] (fun x : Nat × Int × Int => #[Value.int .i64 (x.1 : Nat), .agg #[.int .i64 x.2.1, .int .i64 x.2.2]]) (fun xs => xs = numE (domE L)) (fun pre x => x.1 = pre.length ∧ pre.length < (prodL L).toNat) W :=
  fun l J hJ hY h0 => dall1_in n hn l Bn v L k s h W hr hL hB c pz J hJ hY h0
/-- and where there is no index -/
theorem dall_none (n : Nat) (Bn : Nat) (v : Value) (L : List R3) (k s h : Int) (W : World) (hr : Rd W v L) (hL : Ok3 L) (hB : W.heap[Bn]? = some (.cells #[v, .int .i64 k, .int .i64 s, .int .i64 h] 62 (0, 0)))
    (z : dsiz L k s h = 0) (T : List (Nat × Int × Int) → Nat × Int × Int → Prop) :
    SeqMoves Fence.wide n Try.prog 179 #[.pointer (some ⟨Bn, 0, none⟩)] (fun x : Nat × Int × Int => #[Value.int .i64 (x.1 : Nat), .agg #[.int .i64 x.2.1, .int .i64 x.2.2]]) (fun xs => xs = []) T W := fun l' J _ _ h0 => by
  have HL := Lib.hid hL
  have H0 := Lib.hid h0
  have HR := Lib.hid hr
  have lt : Bn < W.heap.size := (Array.getElem?_eq_some_iff.1 hB).1
  have HB := Lib.hid hB
  clear h0 hr hL hB
  refine callsIn_of_wp_marks Try.func179 rfl trivial ?_ rfl
  simp only [Try.ntmps179, List.size_toArray, List.length_cons, List.length_nil, Nat.reduceAdd, Nat.reduceSub, Array.replicate_succ, Array.replicate_zero, List.push_toArray, List.append_toArray, List.nil_append, List.cons_append]
  refine wpIn_wide.2 ?_
  have x0 := fun ob => ((below_new W ob).cell (p := ⟨Bn, 0, none⟩) lt).trans (row4 HB.out).1
  have x1 := fun ob => ((below_new W ob).cell (p := ⟨Bn, 1, none⟩) lt).trans (row4 HB.out).2.1
  have x2 := fun ob => ((below_new W ob).cell (p := ⟨Bn, 2, none⟩) lt).trans (row4 HB.out).2.2.1
  have x3 := fun ob => ((below_new W ob).cell (p := ⟨Bn, 3, none⟩) lt).trans (row4 HB.out).2.2.2
  go_wp2_with fail
  refine (Dsize_any _ L k s h _ (HR.out.keep (below_new _ _)) HL.out).mono ?_
  rintro e w1 ⟨rfl, hb1⟩
  rw [z]
  have B1 : Hid (Below W.heap.size W w1) := Lib.hid (((Below.refl _ W).alloc (Nat.le_refl _) _).trans (hb1.mono (by simp)))
  clear hb1 x0 x1 x2 x3
  go_wp2
  exact ⟨_, results_none rfl _ _ _, ⟨_, rfl⟩, _, _, rfl, H0.out _ B1.out⟩
end Go.Proofs.Ytmelknodmbdhpaa
