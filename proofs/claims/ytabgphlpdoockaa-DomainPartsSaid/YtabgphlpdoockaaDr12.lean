/-
  Part 12: DomJ, DomK.
-/
import Derived.Test.YtabgphlpdoockaaDr11
import Derived.BigQuiet
import Derived.Deep.CutBlock
import Derived.Deep.DeepCutAuto
import Derived.Deep.DrawnRows
import Derived.Deep.LoopGhost
import Derived.Deep.QuietTactic
import Derived.Deep.RegionHeld3
import Derived.Deep.RegionWith
import Derived.Lib.Hide
import Derived.WalkKit
import Derived.WalkLawsBesides
import Derived.WalkSpells
namespace Go.Proofs.Ytabgphlpdoockaa
open Go.RowKit
theorem res44a (w : World) (t : TypeId) (a b c d a' b' c' d' : Value) :
    Below w.heap.size w ((w.alloc (.cells #[a, b, c, d] t)).alloc (.cells #[a', b', c', d'] t)) ∧ Blk w.heap.size a b c d ((w.alloc (.cells #[a, b, c, d] t)).alloc (.cells #[a', b', c', d'] t)) ∧ Blk (w.heap.size + 1) a' b' c' d' ((w.alloc (.cells #[a, b, c, d] t)).alloc (.cells #[a', b', c', d'] t)) :=
  res44 (Below.refl _ _)
/-- what with returns -/
def DWithRet (X : List R3) (k s h : Int) (w : World) : Ending → World → Prop := fun e w' => ∃ v, e = .returned (.agg #[v, .int .i64 k, .int .i64 s, .int .i64 h]) ∧ Hid (w'.ownsRow w.heap.size 23 3 v X.length (cells3 X)) ∧ Below w.heap.size w w'
set_option maxRecDepth 100000 in
set_option maxHeartbeats 3200000 in
theorem with_any (dv : Value) (k s h : Int) (b o cap : Nat) (X : List R3) (w : World) (hb : b < w.heap.size) (hc : Hid (At3 w b o X)) (hn : X.length ≤ 1000) (hd : ∃ a n c, dv = .slice a n c) :
    Calls Try.prog 153 #[.agg #[dv, .int .i64 k, .int .i64 s, .int .i64 h], .slice (some ⟨b, o, none⟩) X.length cap] w (DWithRet X k s h w) := by
  obtain ⟨da, dn, dc, rfl⟩ := hd
  have R0 := res44a w 62 (.slice da dn dc) (.int .i64 k) (.int .i64 s) (.int .i64 h) (.slice none 0 0) (.int .i64 0) (.int .i64 0) (.int .i64 0)
  go_enter Try.func153, Try.ntmps153
  go_upto_region 1 with fail
  generalize (w.alloc (.cells #[.slice da dn dc, .int .i64 k, .int .i64 s, .int .i64 h] 62)).alloc (.cells #[.slice none 0 0, .int .i64 0, .int .i64 0, .int .i64 0] 62) = w1 at *
  have B1 := Lib.hid R0.1
  have D1 := Lib.hid R0.2.1
  have Z1 := Lib.hid R0.2.2
  have d1 := D1.out.c1
  have d2 := D1.out.c2
  have d3 := D1.out.c3
  clear R0
  refine wp_region_held_drew (S := (fun w' => w'.cell? ⟨w.heap.size, 1, none⟩ = some (.int .i64 k) ∧ w'.cell? ⟨w.heap.size, 2, none⟩ = some (.int .i64 s) ∧ w'.cell? ⟨w.heap.size, 3, none⟩ = some (.int .i64 h))) (by kernel_rfl) ?_ (fun hHeld => ?_)
  · first | exact hHeld | exact ⟨d1, d2, d3⟩ | (obtain ⟨q0, q1, q2⟩ := hHeld; refine ⟨?_, ?_, ?_⟩ <;> simp [go_sem, *]; done) | go_keep
  refine wpAnyH_take (i := 0) (oi := { dst := some 5, op := Op.move (Operand.tmp 1), type := 40, pos := "sets.go:102", after := #[], guard := none }) (v := ?_) rfl (by kernel_rfl) (by kernel_rfl) (by kernel_rfl) (fun _ _ _ h => h) (Or.inl ⟨by rfl, ?_⟩) (by assumption) ?_
  rotate_left
  · (intro w hSw; (try dsimp only at hSw); go_simp; first | done | with_reducible rfl)
  try simp only [Act.put, List.setIfInBounds_toArray, List.set_cons_zero, List.set_cons_succ]
  refine wpAnyH_take (i := 2) (oi := { dst := some 7, op := Op.fieldAddr 62 (Operand.tmp 2) 1, type := 0, pos := "sets.go:102", after := #[], guard := none }) (v := ?_) rfl (by kernel_rfl) (by kernel_rfl) (by kernel_rfl) (fun _ _ _ h => h) (Or.inl ⟨by rfl, ?_⟩) (by assumption) ?_
  rotate_left
  · (intro w hSw; (try dsimp only at hSw); go_simp; first | done | with_reducible rfl)
  try simp only [Act.put, List.setIfInBounds_toArray, List.set_cons_zero, List.set_cons_succ]
  refine wpAnyH_take (i := 3) (oi := { dst := some 8, op := Op.load 60 (Operand.tmp 7), type := 60, pos := "sets.go:102", after := #[{ on := 2, ground := Ground.data }], guard := none }) (v := ?_) rfl (by kernel_rfl) (by kernel_rfl) (by kernel_rfl) (fun _ _ _ h => h) (Or.inl ⟨by rfl, ?_⟩) (by assumption) ?_
  rotate_left
  · (intro w hSw; (try dsimp only at hSw); go_simp; first | done | with_reducible rfl)
  try simp only [Act.put, List.setIfInBounds_toArray, List.set_cons_zero, List.set_cons_succ]
  refine wpAnyH_ready (rs := [1]) (by kernel_rfl) (by simp) ?_
  refine AllReadyH.cons (o := { dst := some 6, op := Op.call { callee := Callee.value (Operand.func 177), args := #[Operand.tmp 5], argTypes := #[40] }, type := 40, pos := "sets.go:102", after := #[{ on := 0, ground := Ground.data }], guard := none }) rfl (fun K hK => ?_) AllReadyH.nil
  go_simp
  refine (cloneR_any b o cap X _ (Nat.lt_of_lt_of_le hb (to_drew B1.out).size) (Lib.hid (hc.out.under (to_drew B1.out) hb)) hn).mono ?_
  rintro e w2 ⟨v', rfl, own, hb2'⟩
  have hb2 : Below w1.heap.size w1 w2 := ⟨hb2'.os, hb2'.tape, hb2'.output, hb2'.size, hb2'.block⟩
  have B2 := Lib.hid (B1.out.trans (hb2.mono B1.out.size))
  have D2 := Lib.hid (D1.out.keep hb2)
  have Z2 := Lib.hid (Z1.out.keep hb2)
  have OW : Hid (w2.ownsRow w1.heap.size 23 3 v' X.length (cells3 X)) := own
  obtain ⟨ra, rc, rfl⟩ := owns_slice OW.out
  have e1 := D2.out.c1
  have e2 := D2.out.c2
  have e3 := D2.out.c3
  have z0 := Z2.out.c0
  have z1 := Z2.out.c1
  have z2 := Z2.out.c2
  have z3 := Z2.out.c3
  have f0 := Z2.out.f0
  have f1 := Z2.out.f1
  have f2 := Z2.out.f2
  have f3 := Z2.out.f3
  clear hb2 hb2' own
  go_wp2_with fail
  refine hK.out _ _ ?_ (fun hHeld1 => ?_)
  · exact ⟨e1, e2, e3⟩
  clear hK K hHeld
  have hHeld := hHeld1
  clear hHeld1
  try simp only [Act.put, List.setIfInBounds_toArray, List.set_cons_zero, List.set_cons_succ]
  refine wpAnyH_take (i := 4) (oi := { dst := some 9, op := Op.build 62 #[(0, Operand.tmp 6), (1, Operand.tmp 8)], type := 62, pos := "sets.go:102", after := #[{ on := 1, ground := Ground.data }, { on := 3, ground := Ground.data }], guard := none }) (v := ?_) rfl (by kernel_rfl) (by kernel_rfl) (by kernel_rfl) (fun _ _ _ h => h) (Or.inl ⟨by rfl, ?_⟩) (by assumption) ?_
  rotate_left
  · (intro w hSw; (try dsimp only at hSw); go_simp; first | done | with_reducible rfl)
  try simp only [Act.put, List.setIfInBounds_toArray, List.set_cons_zero, List.set_cons_succ]
  refine wpAnyH_ready (rs := [5]) (by kernel_rfl) (by simp) ?_
  refine AllReadyH.cons (o := { dst := none, op := Op.store 62 (Operand.tmp 4) (Operand.tmp 9), type := 0, pos := "sets.go:102", after := #[{ on := 4, ground := Ground.data }, { on := 1, ground := Ground.chain }, { on := 0, ground := Ground.phase }, { on := 1, ground := Ground.phase }, { on := 2, ground := Ground.phase }, { on := 3, ground := Ground.phase }, { on := 4, ground := Ground.phase }], guard := none }) rfl (fun K hK => ?_) AllReadyH.nil
  go_simp
  refine hK.out _ _ ?_ (fun hHeld5 => ?_)
  · first | exact hHeld | exact ⟨d1, d2, d3⟩ | (obtain ⟨q0, q1, q2⟩ := hHeld; refine ⟨?_, ?_, ?_⟩ <;> simp [go_sem, *]; done) | go_keep
  clear hK K hHeld
  have hHeld := hHeld5
  clear hHeld5
  try simp only [Act.put, List.setIfInBounds_toArray, List.set_cons_zero, List.set_cons_succ]
  refine wpAnyH_done (by kernel_rfl) ?_ _

  have s1 := B1.out.size
  have s2 := Z1.out.size
  clear hHeld
  go_wp2
  refine bodyPost_ret (v := .agg #[.slice ra X.length rc, .int .i64 k, .int .i64 s, .int .i64 h]) (by simp [results, Try.results153, go_sem, *]) rfl ⟨_, rfl, Lib.hid ?_, ?_⟩
  · refine owns_base (base := w1.heap.size) ?_ s1
    repeat (first | exact OW.out | refine ownsRow_setCell_below ?_ (by simp; try omega) _)
  · repeat (first | exact B2.out | refine Below.setCell ?_ (by simp; try omega) _)
end Go.Proofs.Ytabgphlpdoockaa
namespace Go.Proofs.Ytabgphlpdoockaa
open Go.RowKit
theorem Try.infoDomain : (Try.prog.info? 62).map (fun i => (i.zero, i.size, i.bytes)) = some (some (.agg #[.slice none 0 0, .int .i64 0, .int .i64 0, .int .i64 0]), 4, 48) := by kernel_rfl
/-- the pieces of a dimension -/
def SubsP (L M : List R3) (i : Nat) (P : List R3) : Prop := ∃ (A B : R3) (l h s : Int), L[i]? = some A ∧ M[i]? = some B ∧ InterF A.1 A.2.1 A.2.2 B.1 B.2.1 B.2.2 l h s ∧ P = subAll A.1 A.2.1 A.2.2 l h s
/-- the ranges of the pieces of a dimension: ahead of it both agree, behind it all is left -/
def pcs (C L : List R3) (i : Nat) (P : List R3) : List (List R3) := P.map fun r => C.take i ++ [r] ++ L.drop (i + 1)
/-- the pieces of the first k dimensions -/
def allP (C L : List R3) (PS : List (List R3)) : Nat → List (List R3)
  | 0 => []
  | k + 1 => allP C L PS k ++ pcs C L k (PS.getD k [])
theorem allP_append {C L : List R3} {PS : List (List R3)} (P : List R3) : ∀ {k : Nat}, k ≤ PS.length → allP C L (PS ++ [P]) k = allP C L PS k
  | 0, _ => rfl
  | k + 1, h => by
    have e : (PS ++ [P]).getD k [] = PS.getD k [] := by simp [List.getD, List.getElem?_append_left (show k < PS.length by omega)]
    rw [allP, allP, allP_append P (by omega), e]
/-- the domains of a difference, and its error -/
def DSubs (L M C : List R3) (Ds : List (List R3)) (er : Int) : Prop :=
  (prodL L = 0 ∧ Ds = [] ∧ er = 0) ∨ (¬ prodL L = 0 ∧ prodL C = 0 ∧ Ds = [L] ∧ er = 0) ∨
  (¬ prodL L = 0 ∧ ¬ prodL C = 0 ∧ ∃ PS : List (List R3), (∀ i P, PS[i]? = some P → SubsP L M i P) ∧
    ((PS.length = L.length ∧ (∀ P ∈ PS, P.length ≤ 1000) ∧ er = 0 ∧ Ds = allP C L PS PS.length) ∨
     (∃ P, PS.length < L.length ∧ (∀ P ∈ PS, P.length ≤ 1000) ∧ SubsP L M PS.length P ∧ 1000 < P.length ∧ er = 7 ∧ Ds = [])))
/-- the cells of a list of domains with one map -/
def cells4 (us : List Value) (k s h : Int) : List Value := us.flatMap fun u => [u, .int .i64 k, .int .i64 s, .int .i64 h]
theorem cells4_append (us vs : List Value) (k s h : Int) : cells4 (us ++ vs) k s h = cells4 us k s h ++ cells4 vs k s h := by simp [cells4]
/-- a slice that a function made reads as a list of domains -/
def OwnD (base : Nat) (w : World) (v : Value) (Ds : List (List R3)) (k s h : Int) : Prop := ∃ us : List Value, us.length = Ds.length ∧ w.ownsRow base 62 4 v us.length (cells4 us k s h) ∧
  ∀ (j : Nat) (u : Value) (D : List R3), us[j]? = some u → Ds[j]? = some D → w.ownsRow base 23 3 u D.length (cells3 D)
theorem OwnD.nil (base : Nat) (w : World) (k s h : Int) : OwnD base w (.slice none 0 0) [] k s h := ⟨[], rfl, World.ownsRow_nil _ _ _ _, fun j u D hu => by simp at hu⟩
theorem OwnD.keep {base : Nat} {w w' : World} {v : Value} {Ds : List (List R3)} {k s h : Int} (o : OwnD base w v Ds k s h) (hb : Below w.heap.size w w') : OwnD base w' v Ds k s h := by
  obtain ⟨us, e, r, x⟩ := o
  exact ⟨us, e, owns_below r hb, fun j u D hu hD => owns_below (x j u D hu hD) hb⟩
theorem OwnD.base {base b' : Nat} {w : World} {v : Value} {Ds : List (List R3)} {k s h : Int} (o : OwnD base w v Ds k s h) (hb : b' ≤ base) : OwnD b' w v Ds k s h := by
  obtain ⟨us, e, r, x⟩ := o
  exact ⟨us, e, owns_base r hb, fun j u D hu hD => owns_base (x j u D hu hD) hb⟩
/-- rows of ranges and rows of domains lie apart -/
theorem owns_apart {b1 b2 : Nat} {w : World} {u v : Value} {n m : Nat} {xs ys : List Value} (h1 : w.ownsRow b1 23 3 u n xs) (h2 : w.ownsRow b2 62 4 v m ys) : u.ownBlock = none ∨ u.ownBlock ≠ v.ownBlock := by
  rcases h1.2 with ⟨rfl, _⟩ | ⟨g, cap, cur, rfl, _, hg, _⟩
  · exact Or.inl rfl
  · right
    rcases h2.2 with ⟨rfl, _⟩ | ⟨g', cap', cur', rfl, _, hg', _⟩
    · simp [Value.ownBlock]
    · intro e
      have e' : g = g' := by simpa [Value.ownBlock] using e
      subst e'
      rw [hg] at hg'
      simp at hg'
/-- a row of ranges lies as it lay behind an append to a row of domains -/
theorem owns_kept {b1 b2 : Nat} {w w' : World} {u v : Value} {n m : Nat} {xs ys : List Value} (h1 : w.ownsRow b1 23 3 u n xs) (h2 : w.ownsRow b2 62 4 v m ys) (hg : w.grownBy w' v.ownBlock) : w'.ownsRow b1 23 3 u n xs :=
  h1.kept hg (owns_apart h1 h2)
/-- a domain more -/
theorem OwnD.add {base : Nat} {w w' : World} {v v' : Value} {Ds : List (List R3)} {k s h : Int} {u : Value} {D : List R3} {o : Obj} {us : List Value} (e : us.length = Ds.length) (r : w.ownsRow base 62 4 v us.length (cells4 us k s h))
    (x : ∀ (j : Nat) (u : Value) (D : List R3), us[j]? = some u → Ds[j]? = some D → w.ownsRow base 23 3 u D.length (cells3 D)) (hu : w.ownsRow base 23 3 u D.length (cells3 D))
    (own' : w'.ownsRow base 62 4 v' (us.length + 1) (cells4 us k s h ++ cells4 [u] k s h)) (grow : (w.alloc o).grownBy w' v.ownBlock) : OwnD base w' v' (Ds ++ [D]) k s h := by
  have r' := r.alloc o
  refine ⟨us ++ [u], by simp [e], ?_, fun j a E ha hE => ?_⟩
  · rw [List.length_append, cells4_append]; exact own'
  · by_cases c : j < us.length
    · rw [List.getElem?_append_left c] at ha
      rw [List.getElem?_append_left (by omega)] at hE
      exact owns_kept ((x j a E ha hE).alloc o) r' grow
    · have cj : j = us.length := by
        have := (List.getElem?_eq_some_iff.1 ha).1
        simp at this; omega
      subst cj
      rw [List.getElem?_append_right (by omega)] at ha hE
      simp at ha
      simp [e] at hE
      subst ha; subst hE
      exact owns_kept (hu.alloc o) r' grow
theorem allP_len {C L : List R3} {PS : List (List R3)} (h : ∀ P ∈ PS, P.length ≤ 1000) : ∀ k : Nat, (allP C L PS k).length ≤ k * 1000
  | 0 => by simp [allP]
  | k + 1 => by
    have h1 := allP_len h k (C := C) (L := L)
    have h2 : (PS.getD k []).length ≤ 1000 := by
      by_cases c : k < PS.length
      · rw [List.getD_eq_getElem?_getD, List.getElem?_eq_getElem c]; exact h _ (List.getElem_mem c)
      · rw [List.getD_eq_getElem?_getD, List.getElem?_eq_none (by omega)]; simp
    rw [allP, List.length_append, pcs, List.length_map]; omega
theorem At3.take {w : World} {b o : Nat} {X : List R3} (h : At3 w b o X) (n : Nat) : At3 w b o (X.take n) := fun j x hx => by
  by_cases c : j < n
  · rw [List.getElem?_take_of_lt c] at hx; exact h j x hx
  · rw [List.getElem?_eq_none (by simp; omega)] at hx; cases hx
theorem At3.drop {w : World} {b o : Nat} {X : List R3} (h : At3 w b o X) (n : Nat) : At3 w b (o + n * 3) (X.drop n) := fun j x hx => by
  rw [List.getElem?_drop] at hx
  have := h (n + j) x hx
  have e : o + (n + j) * 3 = o + n * 3 + j * 3 := by omega
  rw [e] at this; exact this
/-- Concat's three slices -/
theorem three_src {w8 : World} {X L : List R3} {i : Nat} {x : R3} {s1 s3 : Value} {t1 t2 : TypeId} (h1 : Src w8 s1 (X.take i)) (h3 : Src w8 s3 (L.drop (i + 1))) : ∀ (k : Nat) (Y : List R3), [X.take i, [x], L.drop (i + 1)][k]? = some Y →
    ∃ v, (((w8.alloc (.cells #[.int .i64 x.1, .int .i64 x.2.1, .int .i64 x.2.2] t1)).alloc (.cells #[s1, .slice (some ⟨w8.heap.size, 0, none⟩) 1 1, s3] t2)).drew).cell? ⟨w8.heap.size + 1, 0 + k, none⟩ = some v ∧
      Src (((w8.alloc (.cells #[.int .i64 x.1, .int .i64 x.2.1, .int .i64 x.2.2] t1)).alloc (.cells #[s1, .slice (some ⟨w8.heap.size, 0, none⟩) 1 1, s3] t2)).drew) v Y := by
  have b1 := below_new w8 (.cells #[.int .i64 x.1, .int .i64 x.2.1, .int .i64 x.2.2] t1)
  have n1 := B3.new (.int .i64 x.1) (.int .i64 x.2.1) (.int .i64 x.2.2) t1 w8
  have e1 : (w8.alloc (.cells #[.int .i64 x.1, .int .i64 x.2.1, .int .i64 x.2.2] t1)).heap.size = w8.heap.size + 1 := by simp
  generalize w8.alloc (.cells #[.int .i64 x.1, .int .i64 x.2.1, .int .i64 x.2.2] t1) = wa at *
  have b2 := below_new wa (.cells #[s1, .slice (some ⟨w8.heap.size, 0, none⟩) 1 1, s3] t2)
  have n2 := B3.new s1 (.slice (some ⟨w8.heap.size, 0, none⟩) 1 1) s3 t2 wa
  have m2 := n1.keep b2
  generalize wa.alloc (.cells #[s1, .slice (some ⟨w8.heap.size, 0, none⟩) 1 1, s3] t2) = wb at *
  have bb : Below w8.heap.size w8 wb.drew := to_drew (b1.trans (b2.mono (by omega)))
  rw [e1] at n2
  intro k Y hY
  match k, hY with
  | 0, hY => simp at hY; subst hY; exact ⟨s1, n2.c0, h1.keep bb⟩
  | 1, hY =>
    simp at hY; subst hY
    refine ⟨_, n2.c1, w8.heap.size, 0, 1, rfl, m2.size, fun j y hy => ?_⟩
    match j, hy with
    | 0, hy => simp at hy; subst hy; exact ⟨m2.c0, m2.c1, m2.c2⟩
  | 2, hY => simp at hY; subst hY; exact ⟨s3, n2.c2, h3.keep bb⟩
end Go.Proofs.Ytabgphlpdoockaa
