/-
  Part 7: DomE, ByA, SpanJ, SpanK, SpanI, SpanL, RefF, RefG, RefJ, RefK, RefL, PairA, PairB, ByB, DomF.
-/
import Derived.Test.YtmelknodmbdhpaaOn2
import Derived.Test.YtmelknodmbdhpaaOn5
import Derived.Test.YtmelknodmbdhpaaOn6
import Derived.BigQuiet
import Derived.BigRegion
import Derived.Deep.AppendLies
import Derived.Deep.CutBlock
import Derived.Deep.DeepCutAuto
import Derived.Deep.DrawnRows
import Derived.Deep.LoopGhost
import Derived.Deep.QuietTactic
import Derived.Deep.RegionHeld3
import Derived.Deep.RegionWith
import Derived.Laws.AppendOwnNone
import Derived.Lib.AppendZeros
import Derived.Lib.AppendZerosOnto
import Derived.Lib.Hide
import Derived.WalkKit
import Derived.WalkLawsBesides
import Derived.WalkSpells
namespace Go.Proofs.Ytmelknodmbdhpaa
open Go.RowKit
set_option maxRecDepth 100000 in
set_option maxHeartbeats 3200000 in
theorem interClo (c0 c1 ba oa bb ob n m ca cb i : Nat) (a0 a1 a2 b0 b1 b2 : Int) (w : World) (p0 : w.cell? ⟨c0, 0, none⟩ = some (.slice (some ⟨ba, oa, none⟩) n ca)) (p1 : w.cell? ⟨ba, oa + i * 3, none⟩ = some (.int .i64 a0)) (p2 : w.cell? ⟨ba, oa + i * 3 + 1, none⟩ = some (.int .i64 a1)) (p3 : w.cell? ⟨ba, oa + i * 3 + 2, none⟩ = some (.int .i64 a2)) (p4 : w.cell? ⟨c1, 0, none⟩ = some (.slice (some ⟨bb, ob, none⟩) m cb)) (p5 : w.cell? ⟨bb, ob + i * 3, none⟩ = some (.int .i64 b0)) (p6 : w.cell? ⟨bb, ob + i * 3 + 1, none⟩ = some (.int .i64 b1)) (p7 : w.cell? ⟨bb, ob + i * 3 + 2, none⟩ = some (.int .i64 b2)) (hi : i < n) (hj : i < m) (hn : n ≤ 2) (hA : Hid (chk a0 a1 a2 = 0)) (hB : Hid (chk b0 b1 b2 = 0)) :
    Calls Try.prog 151 #[.int .i64 i, .pointer (some ⟨c0, 0, none⟩), .pointer (some ⟨c1, 0, none⟩)] w fun e w' => ∃ (x0 x1 x2 er : Int), e = .returned (.tuple #[.agg #[.int .i64 x0, .int .i64 x1, .int .i64 x2], .int .i64 er]) ∧ Below w.heap.size w w' ∧ Hid (er = 0 ∧ InterF a0 a1 a2 b0 b1 b2 x0 x1 x2) := by
  have zc0 : c0 < w.heap.size := World.block_lt_of_cell? w _ p0
  have zba : ba < w.heap.size := World.block_lt_of_cell? w _ p1
  have zc1 : c1 < w.heap.size := World.block_lt_of_cell? w _ p4
  have zbb : bb < w.heap.size := World.block_lt_of_cell? w _ p5
  have W1 : Hid (Below w.heap.size w (w.alloc (.cells #[.int .i64 0, .int .i64 0, .int .i64 0] 23))) := Lib.hid (below_new _ _)
  have N1 := Lib.hid (B3.new (.int .i64 0) (.int .i64 0) (.int .i64 0) 23 w)
  have H1 := Lib.hid p0
  have p0 := (W1.out.cell (p := ⟨c0, 0, none⟩) zc0).trans p0
  have p1 := (W1.out.cell (p := ⟨ba, oa + i * 3, none⟩) zba).trans p1
  have p2 := (W1.out.cell (p := ⟨ba, oa + i * 3 + 1, none⟩) zba).trans p2
  have p3 := (W1.out.cell (p := ⟨ba, oa + i * 3 + 2, none⟩) zba).trans p3
  have p4 := (W1.out.cell (p := ⟨c1, 0, none⟩) zc1).trans p4
  have p5 := (W1.out.cell (p := ⟨bb, ob + i * 3, none⟩) zbb).trans p5
  have p6 := (W1.out.cell (p := ⟨bb, ob + i * 3 + 1, none⟩) zbb).trans p6
  have p7 := (W1.out.cell (p := ⟨bb, ob + i * 3 + 2, none⟩) zbb).trans p7
  have z1 := W1.out.size
  go_enter Try.func151, Try.ntmps151
  go_upto_region 1 with fail
  generalize w.alloc (.cells #[.int .i64 0, .int .i64 0, .int .i64 0] 23) = w1 at *
  refine wp_region_held_drew (S := (fun w' => w'.cell? ⟨c0, 0, none⟩ = some (.slice (some ⟨ba, oa, none⟩) n ca) ∧ w'.cell? ⟨ba, oa + i * 3, none⟩ = some (.int .i64 a0) ∧ w'.cell? ⟨ba, oa + i * 3 + 1, none⟩ = some (.int .i64 a1) ∧ w'.cell? ⟨ba, oa + i * 3 + 2, none⟩ = some (.int .i64 a2) ∧ w'.cell? ⟨c1, 0, none⟩ = some (.slice (some ⟨bb, ob, none⟩) m cb) ∧ w'.cell? ⟨bb, ob + i * 3, none⟩ = some (.int .i64 b0) ∧ w'.cell? ⟨bb, ob + i * 3 + 1, none⟩ = some (.int .i64 b1) ∧ w'.cell? ⟨bb, ob + i * 3 + 2, none⟩ = some (.int .i64 b2))) (by kernel_rfl) ?_ (fun hHeld => ?_)
  · first | exact hHeld | exact ⟨p0, p1, p2, p3, p4, p5, p6, p7⟩ | (obtain ⟨q0, q1, q2, q3, q4, q5, q6, q7⟩ := hHeld; refine ⟨?_, ?_, ?_, ?_, ?_, ?_, ?_, ?_⟩ <;> simp [go_sem, *]; done) | go_keep
  refine wpAnyH_take (i := 0) (oi := { dst := some 6, op := Op.fieldAddr 62 (Operand.tmp 1) 0, type := 0, pos := "sets.go:16", after := #[], guard := none }) (v := ?_) rfl (by kernel_rfl) (by kernel_rfl) (by kernel_rfl) (fun _ _ _ h => h) (Or.inl ⟨by rfl, ?_⟩) (by assumption) ?_
  rotate_left
  · (intro w hSw; (try dsimp only at hSw); go_simp; first | done | with_reducible rfl)
  try simp only [Act.put, List.setIfInBounds_toArray, List.set_cons_zero, List.set_cons_succ]
  refine wpAnyH_take (i := 1) (oi := { dst := some 7, op := Op.load 40 (Operand.tmp 6), type := 40, pos := "sets.go:16", after := #[{ on := 0, ground := Ground.data }], guard := none }) (v := ?_) rfl (by kernel_rfl) (by kernel_rfl) (by kernel_rfl) (fun _ _ _ h => h) (Or.inl ⟨by rfl, ?_⟩) (by assumption) ?_
  rotate_left
  · (intro w hSw; (try dsimp only at hSw); go_simp; first | done | with_reducible rfl)
  try simp only [Act.put, List.setIfInBounds_toArray, List.set_cons_zero, List.set_cons_succ]
  refine wpAnyH_take (i := 2) (oi := { dst := some 8, op := Op.move (Operand.tmp 0), type := 3, pos := "sets.go:16", after := #[], guard := none }) (v := ?_) rfl (by kernel_rfl) (by kernel_rfl) (by kernel_rfl) (fun _ _ _ h => h) (Or.inl ⟨by rfl, ?_⟩) (by assumption) ?_
  rotate_left
  · (intro w hSw; (try dsimp only at hSw); go_simp; first | done | with_reducible rfl)
  try simp only [Act.put, List.setIfInBounds_toArray, List.set_cons_zero, List.set_cons_succ]
  refine wpAnyH_take (i := 3) (oi := { dst := some 9, op := Op.indexAddr 40 (Operand.tmp 7) (Operand.tmp 8), type := 0, pos := "sets.go:16", after := #[{ on := 1, ground := Ground.data }, { on := 2, ground := Ground.data }], guard := none }) (v := ?_) rfl (by kernel_rfl) (by kernel_rfl) (by kernel_rfl) (fun _ _ _ h => h) (Or.inl ⟨by rfl, ?_⟩) (by assumption) ?_
  rotate_left
  · (intro w hSw; (try dsimp only at hSw); go_simp; first | done | with_reducible rfl)
  try simp only [Act.put, List.setIfInBounds_toArray, List.set_cons_zero, List.set_cons_succ]
  refine wpAnyH_take (i := 4) (oi := { dst := some 10, op := Op.load 23 (Operand.tmp 9), type := 23, pos := "sets.go:16", after := #[{ on := 3, ground := Ground.data }], guard := none }) (v := ?_) rfl (by kernel_rfl) (by kernel_rfl) (by kernel_rfl) (fun _ _ _ h => h) (Or.inl ⟨by rfl, ?_⟩) (by assumption) ?_
  rotate_left
  · (intro w hSw; (try dsimp only at hSw); go_simp; first | done | with_reducible rfl)
  try simp only [Act.put, List.setIfInBounds_toArray, List.set_cons_zero, List.set_cons_succ]
  refine wpAnyH_take (i := 5) (oi := { dst := some 11, op := Op.fieldAddr 62 (Operand.tmp 2) 0, type := 0, pos := "sets.go:16", after := #[], guard := none }) (v := ?_) rfl (by kernel_rfl) (by kernel_rfl) (by kernel_rfl) (fun _ _ _ h => h) (Or.inl ⟨by rfl, ?_⟩) (by assumption) ?_
  rotate_left
  · (intro w hSw; (try dsimp only at hSw); go_simp; first | done | with_reducible rfl)
  try simp only [Act.put, List.setIfInBounds_toArray, List.set_cons_zero, List.set_cons_succ]
  refine wpAnyH_take (i := 6) (oi := { dst := some 12, op := Op.load 40 (Operand.tmp 11), type := 40, pos := "sets.go:16", after := #[{ on := 5, ground := Ground.data }], guard := none }) (v := ?_) rfl (by kernel_rfl) (by kernel_rfl) (by kernel_rfl) (fun _ _ _ h => h) (Or.inl ⟨by rfl, ?_⟩) (by assumption) ?_
  rotate_left
  · (intro w hSw; (try dsimp only at hSw); go_simp; first | done | with_reducible rfl)
  try simp only [Act.put, List.setIfInBounds_toArray, List.set_cons_zero, List.set_cons_succ]
  refine wpAnyH_take (i := 7) (oi := { dst := some 13, op := Op.move (Operand.tmp 0), type := 3, pos := "sets.go:16", after := #[], guard := none }) (v := ?_) rfl (by kernel_rfl) (by kernel_rfl) (by kernel_rfl) (fun _ _ _ h => h) (Or.inl ⟨by rfl, ?_⟩) (by assumption) ?_
  rotate_left
  · (intro w hSw; (try dsimp only at hSw); go_simp; first | done | with_reducible rfl)
  try simp only [Act.put, List.setIfInBounds_toArray, List.set_cons_zero, List.set_cons_succ]
  refine wpAnyH_take (i := 8) (oi := { dst := some 14, op := Op.indexAddr 40 (Operand.tmp 12) (Operand.tmp 13), type := 0, pos := "sets.go:16", after := #[{ on := 6, ground := Ground.data }, { on := 7, ground := Ground.data }], guard := none }) (v := ?_) rfl (by kernel_rfl) (by kernel_rfl) (by kernel_rfl) (fun _ _ _ h => h) (Or.inl ⟨by rfl, ?_⟩) (by assumption) ?_
  rotate_left
  · (intro w hSw; (try dsimp only at hSw); go_simp; first | done | with_reducible rfl)
  try simp only [Act.put, List.setIfInBounds_toArray, List.set_cons_zero, List.set_cons_succ]
  refine wpAnyH_take (i := 9) (oi := { dst := some 15, op := Op.load 23 (Operand.tmp 14), type := 23, pos := "sets.go:16", after := #[{ on := 8, ground := Ground.data }], guard := none }) (v := ?_) rfl (by kernel_rfl) (by kernel_rfl) (by kernel_rfl) (fun _ _ _ h => h) (Or.inl ⟨by rfl, ?_⟩) (by assumption) ?_
  rotate_left
  · (intro w hSw; (try dsimp only at hSw); go_simp; first | done | with_reducible rfl)
  try simp only [Act.put, List.setIfInBounds_toArray, List.set_cons_zero, List.set_cons_succ]
  refine wpAnyH_ready (rs := [10]) (by kernel_rfl) (by simp) ?_
  refine AllReadyH.cons (o := { dst := some 16, op := Op.call { callee := Callee.value (Operand.func 43), args := #[Operand.tmp 10, Operand.tmp 15], argTypes := #[23, 23] }, type := 25, pos := "sets.go:16", after := #[{ on := 4, ground := Ground.data }, { on := 9, ground := Ground.data }], guard := none }) rfl (fun K hK => ?_) AllReadyH.nil
  go_simp
  refine (Intersect_dir a0 a1 a2 b0 b1 b2 _ hA hB).mono ?_
  rintro e w2 ⟨x0, x1, x2, hF, rfl, hb⟩
  have F := Lib.hid hF
  have hb : Below w1.heap.size w1 w2 := ⟨hb.os, hb.tape, hb.output, hb.size, hb.block⟩
  have W2 := Lib.hid (W1.out.trans (hb.mono W1.out.size))
  have N2 := Lib.hid (N1.out.keep hb)
  have f0 := N2.out.f0
  have f1 := N2.out.f1
  have f2 := N2.out.f2
  have d0 := N2.out.c0
  have d1 := N2.out.c1
  have d2 := N2.out.c2
  clear hF
  go_wp2_with fail
  refine hK.out _ _ ?_ (fun hHeld10 => ?_)
  · (obtain ⟨q0, q1, q2, q3, q4, q5, q6, q7⟩ := hHeld; exact ⟨(hb.cell (p := ⟨c0, 0, none⟩) (by first | (simp; done) | (simp; omega))).trans q0, (hb.cell (p := ⟨ba, oa + i * 3, none⟩) (by first | (simp; done) | (simp; omega))).trans q1, (hb.cell (p := ⟨ba, oa + i * 3 + 1, none⟩) (by first | (simp; done) | (simp; omega))).trans q2, (hb.cell (p := ⟨ba, oa + i * 3 + 2, none⟩) (by first | (simp; done) | (simp; omega))).trans q3, (hb.cell (p := ⟨c1, 0, none⟩) (by first | (simp; done) | (simp; omega))).trans q4, (hb.cell (p := ⟨bb, ob + i * 3, none⟩) (by first | (simp; done) | (simp; omega))).trans q5, (hb.cell (p := ⟨bb, ob + i * 3 + 1, none⟩) (by first | (simp; done) | (simp; omega))).trans q6, (hb.cell (p := ⟨bb, ob + i * 3 + 2, none⟩) (by first | (simp; done) | (simp; omega))).trans q7⟩)
  clear hK K hHeld
  have hHeld := hHeld10
  clear hHeld10
  try simp only [Act.put, List.setIfInBounds_toArray, List.set_cons_zero, List.set_cons_succ]
  refine wpAnyH_take (i := 11) (oi := { dst := some 17, op := Op.extract (Operand.tmp 16) 0, type := 23, pos := "sets.go:16", after := #[{ on := 10, ground := Ground.data }], guard := none }) (v := ?_) rfl (by kernel_rfl) (by kernel_rfl) (by kernel_rfl) (fun _ _ _ h => h) (Or.inl ⟨by rfl, ?_⟩) (by assumption) ?_
  rotate_left
  · (intro w hSw; (try dsimp only at hSw); go_simp; first | done | with_reducible rfl)
  try simp only [Act.put, List.setIfInBounds_toArray, List.set_cons_zero, List.set_cons_succ]
  refine wpAnyH_take (i := 12) (oi := { dst := some 18, op := Op.extract (Operand.tmp 16) 1, type := 24, pos := "sets.go:16", after := #[{ on := 10, ground := Ground.data }], guard := none }) (v := ?_) rfl (by kernel_rfl) (by kernel_rfl) (by kernel_rfl) (fun _ _ _ h => h) (Or.inl ⟨by rfl, ?_⟩) (by assumption) ?_
  rotate_left
  · (intro w hSw; (try dsimp only at hSw); go_simp; first | done | with_reducible rfl)
  try simp only [Act.put, List.setIfInBounds_toArray, List.set_cons_zero, List.set_cons_succ]
  refine wpAnyH_ready (rs := [13]) (by kernel_rfl) (by simp) ?_
  refine AllReadyH.cons (o := { dst := none, op := Op.store 23 (Operand.tmp 4) (Operand.tmp 17), type := 0, pos := "sets.go:16", after := #[{ on := 11, ground := Ground.data }, { on := 10, ground := Ground.chain }, { on := 0, ground := Ground.phase }, { on := 1, ground := Ground.phase }, { on := 2, ground := Ground.phase }, { on := 3, ground := Ground.phase }, { on := 4, ground := Ground.phase }, { on := 5, ground := Ground.phase }, { on := 6, ground := Ground.phase }, { on := 7, ground := Ground.phase }, { on := 8, ground := Ground.phase }, { on := 9, ground := Ground.phase }, { on := 10, ground := Ground.phase }, { on := 11, ground := Ground.phase }, { on := 12, ground := Ground.phase }], guard := none }) rfl (fun K hK => ?_) AllReadyH.nil
  go_simp
  refine hK.out _ _ ?_ (fun hHeld13 => ?_)
  · first | exact hHeld | exact ⟨p0, p1, p2, p3, p4, p5, p6, p7⟩ | (obtain ⟨q0, q1, q2, q3, q4, q5, q6, q7⟩ := hHeld; refine ⟨?_, ?_, ?_, ?_, ?_, ?_, ?_, ?_⟩ <;> simp [go_sem, *]; done) | go_keep
  clear hK K hHeld
  have hHeld := hHeld13
  clear hHeld13
  try simp only [Act.put, List.setIfInBounds_toArray, List.set_cons_zero, List.set_cons_succ]
  refine wpAnyH_take (i := 14) (oi := { dst := some 5, op := Op.assign (Operand.tmp 18), type := 24, pos := "sets.go:16", after := #[{ on := 12, ground := Ground.data }, { on := 13, ground := Ground.chain }, { on := 0, ground := Ground.phase }, { on := 1, ground := Ground.phase }, { on := 2, ground := Ground.phase }, { on := 3, ground := Ground.phase }, { on := 4, ground := Ground.phase }, { on := 5, ground := Ground.phase }, { on := 6, ground := Ground.phase }, { on := 7, ground := Ground.phase }, { on := 8, ground := Ground.phase }, { on := 9, ground := Ground.phase }, { on := 10, ground := Ground.phase }, { on := 11, ground := Ground.phase }, { on := 12, ground := Ground.phase }, { on := 13, ground := Ground.phase }], guard := none }) (v := ?_) rfl (by kernel_rfl) (by kernel_rfl) (by kernel_rfl) (fun _ _ _ h => h) (Or.inl ⟨by rfl, ?_⟩) (by assumption) ?_
  rotate_left
  · (intro w hSw; (try dsimp only at hSw); go_simp; first | done | with_reducible rfl)
  try simp only [Act.put, List.setIfInBounds_toArray, List.set_cons_zero, List.set_cons_succ]
  refine wpAnyH_done (by kernel_rfl) ?_ _
  have D := W2.out
  clear hHeld
  go_wp2
  refine bodyPost_ret (v := .tuple #[.agg #[.int .i64 x0, .int .i64 x1, .int .i64 x2], .int .i64 0]) (by simp [results, Try.results151, go_sem, *]) rfl ⟨x0, x1, x2, 0, rfl, ?_, Lib.hid ⟨rfl, F.out⟩⟩
  repeat (first | exact D | refine Below.setCell ?_ (by simp; try omega) _)
theorem dimsE_zero : ∀ {L : List R3}, dimsE L = 0 → ∀ x ∈ L, chk x.1 x.2.1 x.2.2 = 0 ∧ ¬ x.2.2 < 0
  | [], _, x, hx => by cases hx
  | y :: L, h, x, hx => by
    unfold dimsE at h
    by_cases c : dimE y = 0
    · rw [if_pos c] at h
      rcases List.mem_cons.1 hx with rfl | hx
      · unfold dimE at c
        by_cases c1 : chk x.1 x.2.1 x.2.2 = 0
        · rw [if_pos c1] at c
          refine ⟨c1, fun c2 => ?_⟩
          rw [if_pos c2] at c; omega
        · rw [if_neg c1] at c; exact absurd c c1
      · exact dimsE_zero h x hx
    · rw [if_neg c] at h; exact absurd h c
/-- what a right domain is -/
theorem dchk_zero {L : List R3} {k s h : Int} (hd : dchk L k s h = 0) : (L.length = 1 ∨ L.length = 2) ∧ plB k s h = true ∧ ∀ x ∈ L, chk x.1 x.2.1 x.2.2 = 0 ∧ ¬ x.2.2 < 0 := by
  refine ⟨dchk_rank hd, ?_⟩
  unfold dchk at hd
  by_cases c : rankB L.length = true
  · rw [if_pos c] at hd
    by_cases c1 : dimsE L = 0
    · rw [if_pos c1] at hd
      refine ⟨?_, dimsE_zero c1⟩
      cases hp : plB k s h
      · rw [hp] at hd; simp at hd
      · rfl
    · rw [if_neg c1] at hd; exact absurd hd c1
  · rw [if_neg c] at hd; omega
theorem dboth_zero {L M : List R3} {k s h k' s' h' : Int} (hd : dboth L k s h M k' s' h' = 0) : dchk L k s h = 0 ∧ dchk M k' s' h' = 0 ∧ L.length = M.length := by
  unfold dboth at hd
  by_cases c : dchk L k s h = 0
  · rw [if_pos c] at hd
    by_cases c1 : dchk M k' s' h' = 0
    · rw [if_pos c1] at hd
      by_cases c2 : L.length = M.length
      · exact ⟨c, c1, c2⟩
      · rw [if_neg c2] at hd; omega
    · rw [if_neg c1] at hd; exact absurd hd c1
  · rw [if_neg c] at hd; exact absurd hd c
/-- the ranges of two lists, met in each dimension -/
def Meets (L M X : List R3) : Prop := X.length = L.length ∧ ∀ (i : Nat) (x : R3), X[i]? = some x → ∃ A B : R3, L[i]? = some A ∧ M[i]? = some B ∧ InterF A.1 A.2.1 A.2.2 B.1 B.2.1 B.2.2 x.1 x.2.1 x.2.2
/-- what Intersect returns -/
def DInterRet (L : List R3) (k s h : Int) (M : List R3) (k' s' h' : Int) (w : World) : Ending → World → Prop := fun e w' => ∃ (v : Value) (kk ss hh er : Int), e = .returned (.tuple #[.agg #[v, .int .i64 kk, .int .i64 ss, .int .i64 hh], .int .i64 er]) ∧ Below w.heap.size w w' ∧
  Hid ((dboth L k s h M k' s' h' = 0 ∧ er = 0 ∧ kk = k ∧ ss = s ∧ hh = h ∧ ∃ X, Meets L M X ∧ w'.ownsRow w.heap.size 23 3 v X.length (cells3 X)) ∨
    (¬ dboth L k s h M k' s' h' = 0 ∧ er = dboth L k s h M k' s' h' ∧ v = .slice none 0 0 ∧ kk = 0 ∧ ss = 0 ∧ hh = 0))
theorem res444 {w w1 : World} {t : TypeId} {a b c d a' b' c' d' p q r s : Value} (hb : Below (((w.alloc (.cells #[a, b, c, d] t)).alloc (.cells #[a', b', c', d'] t)).alloc (.cells #[p, q, r, s] t)).heap.size (((w.alloc (.cells #[a, b, c, d] t)).alloc (.cells #[a', b', c', d'] t)).alloc (.cells #[p, q, r, s] t)) w1) :
    Below w.heap.size w w1 ∧ Blk w.heap.size a b c d w1 ∧ Blk (w.heap.size + 1) a' b' c' d' w1 ∧ Blk (w.heap.size + 1 + 1) p q r s w1 := by
  have e1 : (w.alloc (.cells #[a, b, c, d] t)).heap.size = w.heap.size + 1 := by simp
  have e2 : ((w.alloc (.cells #[a, b, c, d] t)).alloc (.cells #[a', b', c', d'] t)).heap.size = w.heap.size + 1 + 1 := by simp
  have n0 := ((Blk.new a b c d t w).keep (below_new _ (.cells #[a', b', c', d'] t))).keep (below_new _ (.cells #[p, q, r, s] t))
  have n1 := (Blk.new a' b' c' d' t (w.alloc (.cells #[a, b, c, d] t))).keep (below_new _ (.cells #[p, q, r, s] t))
  have n2 := Blk.new p q r s t ((w.alloc (.cells #[a, b, c, d] t)).alloc (.cells #[a', b', c', d'] t))
  rw [e1] at n1
  rw [e2] at n2
  exact ⟨((((Below.refl _ _).alloc (Nat.le_refl _) _).alloc (by simp) _).alloc (by simp; omega) _).trans (hb.mono (by simp; omega)), n0.keep hb, n1.keep hb, n2.keep hb⟩
set_option maxRecDepth 100000 in
set_option maxHeartbeats 6400000 in
theorem Dinter_any (v : Value) (L : List R3) (k s h : Int) (v' : Value) (M : List R3) (k' s' h' : Int) (w : World) (hr : Rd w v L) (hL : Ok3 L) (hr' : Rd w v' M) (hM : Ok3 M) :
    Calls Try.prog 82 #[.agg #[v, .int .i64 k, .int .i64 s, .int .i64 h], .agg #[v', .int .i64 k', .int .i64 s', .int .i64 h']] w (DInterRet L k s h M k' s' h' w) := by
  obtain ⟨ao, cap, rfl, hc⟩ := hr
  obtain ⟨ao', cap', rfl, hc'⟩ := hr'
  have HR : Hid (Rd w (.slice ao L.length cap) L) := Lib.hid ⟨ao, cap, rfl, hc⟩
  have HR' : Hid (Rd w (.slice ao' M.length cap') M) := Lib.hid ⟨ao', cap', rfl, hc'⟩
  have HCC := Lib.hid hc
  have HCC' := Lib.hid hc'
  have HL := Lib.hid hL
  have HM := Lib.hid hM
  clear hc hL hc' hM
  go_enter Try.func82, Try.ntmps82
  go_wp2_with fail
  refine (Dboth_any _ L _ _ _ _ M _ _ _ _ (((HR.out.keep (below_new _ _)).keep (below_new _ _)).keep (below_new _ _)) HL.out (((HR'.out.keep (below_new _ _)).keep (below_new _ _)).keep (below_new _ _)) HM.out).mono ?_
  rintro e w1 ⟨rfl, hb1⟩
  have R1 := res444 hb1
  have B1 := Lib.hid R1.1
  have D1 := Lib.hid R1.2.1
  have F1 := Lib.hid R1.2.2.1
  have Z1 := Lib.hid R1.2.2.2
  clear hb1 R1
  have x0 := D1.out.c0
  have x1 := D1.out.c1
  have x2 := D1.out.c2
  have x3 := D1.out.c3
  have z0 := Z1.out.c0
  have z1 := Z1.out.c1
  have z2 := Z1.out.c2
  have z3 := Z1.out.c3
  have f0 := Z1.out.f0
  have f1 := Z1.out.f1
  have f2 := Z1.out.f2
  have f3 := Z1.out.f3
  by_cases c : dboth L k s h M k' s' h' = 0
  · have c' : (dboth L k s h M k' s' h' != 0) = false := by simp [c]
    have C := Lib.hid c
    have ok := dboth_zero c
    have OK := Lib.hid ok
    have rk := Lib.hid (dchk_rank ok.1)
    clear c ok
    obtain ⟨ba, oa, rfl, hba, ca⟩ := HCC.out.resolve_left (by have := rk.out; omega)
    obtain ⟨bb, ob, rfl, hbb, cb⟩ := HCC'.out.resolve_left (by have := rk.out; have := OK.out.2.2; omega)
    have CA := Lib.hid ca
    have CB := Lib.hid cb
    clear ca cb HCC HCC'
    go_wp2_with fail
    refine (eachInter w.heap.size (w.heap.size + 1) _ L k s h (fun i (x : R3) er => er = 0 ∧ ∃ A B : R3, L[i]? = some A ∧ M[i]? = some B ∧ InterF A.1 A.2.1 A.2.2 B.1 B.2.1 B.2.2 x.1 x.2.1 x.2.2) w1 (HR.out.keep B1.out) (by have := rk.out; omega) ?_).mono ?_
    · intro i hi w2 hb2
      have ln := OK.out.2.2
      obtain ⟨A, hA⟩ : ∃ A, L[i]? = some A := ⟨L[i], List.getElem?_eq_getElem hi⟩
      obtain ⟨B, hB⟩ : ∃ B, M[i]? = some B := ⟨M[i]'(by omega), List.getElem?_eq_getElem _⟩
      obtain ⟨a0, a1, a2⟩ := CA.out i A hA
      obtain ⟨b0, b1, b2⟩ := CB.out i B hB
      have S1 := B1.out.size
      have up : ∀ (b o : Nat) (u : Value), b < w.heap.size → w.cell? ⟨b, o, none⟩ = some u → w2.cell? ⟨b, o, none⟩ = some u := fun b o u hlt hu => by
        rw [hb2.cell (p := ⟨b, o, none⟩) (by simp; omega), B1.out.cell (p := ⟨b, o, none⟩) hlt]; exact hu
      refine (interClo w.heap.size (w.heap.size + 1) ba oa bb ob L.length M.length cap cap' i A.1 A.2.1 A.2.2 B.1 B.2.1 B.2.2 w2 ((hb2.cell (p := ⟨w.heap.size, 0, none⟩) D1.out.size).trans x0) (up _ _ _ hba a0) (up _ _ _ hba a1) (up _ _ _ hba a2) ((hb2.cell (p := ⟨w.heap.size + 1, 0, none⟩) F1.out.size).trans F1.out.c0) (up _ _ _ hbb b0) (up _ _ _ hbb b1) (up _ _ _ hbb b2) hi (by omega) (by have := rk.out; omega) (Lib.hid ((dchk_zero OK.out.1).2.2 A (List.mem_of_getElem? hA)).1) (Lib.hid ((dchk_zero OK.out.2.1).2.2 B (List.mem_of_getElem? hB)).1)).mono ?_
      rintro e w3 ⟨y0, y1, y2, er, he, hb3, hF⟩
      exact ⟨y0, y1, y2, er, he, hb3, Lib.hid ⟨hF.out.1, A, B, hA, hB, hF.out.2⟩⟩
    · rintro e w2 ⟨rv, kk, ss, hh, er, rfl, hb2, hE⟩
      have B2 := Lib.hid (B1.out.trans (hb2.mono B1.out.size))
      have Z2 := Lib.hid (Z1.out.keep hb2)
      have S1 := Lib.hid B1.out.size
      have HE : Hid ((dboth L k s h M k' s' h' = 0 ∧ er = 0 ∧ kk = k ∧ ss = s ∧ hh = h ∧ ∃ X, Meets L M X ∧ w2.ownsRow (w.heap.size + 3) 23 3 rv X.length (cells3 X))) := Lib.hid (by
        rcases hE.out with ⟨X, hX, hR, h1, h2, h3, h4, own⟩ | ⟨j, x, _, hR, h1, _⟩
        · exact ⟨C.out, h1, h2, h3, h4, X, ⟨hX, fun i x hx => (hR i x hx).2⟩, owns_base own (by have := Z1.out.size; omega)⟩
        · exact absurd hR.1 h1)
      clear hE hb2 x0 x1 x2 x3 z0 z1 z2 z3 f0 f1 f2 f3
      have hrv : ∃ a n c, rv = .slice a n c := by
        obtain ⟨_, _, _, _, _, X, _, own⟩ := HE.out
        obtain ⟨a, c, rfl⟩ := owns_slice own
        exact ⟨a, _, c, rfl⟩
      obtain ⟨ra, rn, rc, rfl⟩ := hrv
      have z0 := Z2.out.c0
      have z1 := Z2.out.c1
      have z2 := Z2.out.c2
      have z3 := Z2.out.c3
      have f0 := Z2.out.f0
      have f1 := Z2.out.f1
      have f2 := Z2.out.f2
      have f3 := Z2.out.f3
      go_wp2
      refine bodyPost_ret (v := .tuple #[.agg #[.slice ra rn rc, .int .i64 kk, .int .i64 ss, .int .i64 hh], .int .i64 er]) (by simp [results, Try.results82, go_sem, *]) rfl ⟨_, _, _, _, _, rfl, ?_, Lib.hid (Or.inl ?_)⟩
      · repeat (first | exact B2.out | refine Below.setCell ?_ (by simp; try omega) _)
      · obtain ⟨h0, h1, h2, h3, h4, X, hX, own⟩ := HE.out
        refine ⟨h0, h1, h2, h3, h4, X, hX, owns_base (base := w.heap.size + 3) ?_ (by omega)⟩
        repeat (first | exact own | refine ownsRow_setCell_below ?_ (by simp; try omega) _)
  · have c' : (dboth L k s h M k' s' h' != 0) = true := by simp [c]
    have C := Lib.hid c
    clear c
    go_wp2
    refine bodyPost_ret (v := .tuple #[.agg #[.slice none 0 0, .int .i64 0, .int .i64 0, .int .i64 0], .int .i64 (dboth L k s h M k' s' h')]) (by simp [results, Try.results82, go_sem, *]) rfl ⟨_, _, _, _, _, rfl, ?_, Lib.hid (Or.inr ⟨C.out, rfl, rfl, rfl, rfl, rfl⟩)⟩
    repeat (first | exact B1.out | refine Below.setCell ?_ (by simp; try omega) _)
end Go.Proofs.Ytmelknodmbdhpaa
namespace Go.Proofs.Ytmelknodmbdhpaa
open Go.RowKit
set_option maxRecDepth 100000 in
set_option maxHeartbeats 3200000 in
theorem equalI_some (g1 g2 c1 c2 b1 b2 : Nat) (xs : List Int) (w : World) (h1 : w.ownsRow b1 3 1 (.slice (some ⟨g1, 0, none⟩) xs.length c1) xs.length (xs.map (Value.int .i64))) (h2 : w.ownsRow b2 3 1 (.slice (some ⟨g2, 0, none⟩) xs.length c2) xs.length (xs.map (Value.int .i64))) (hn : xs.length ≤ 5000) :
    Calls Try.prog 55 #[.slice (some ⟨g1, 0, none⟩) xs.length c1, .slice (some ⟨g2, 0, none⟩) xs.length c2] w fun e w' => e = .returned (.bool true) ∧ Below w.heap.size w w' := by
  have z1 := (h1.lt _ rfl).2
  have z2 := (h2.lt _ rfl).2
  have H1 := Lib.hid h1
  have H2 := Lib.hid h2
  clear h1 h2
  go_enter Try.func55, Try.ntmps55
  go_wp2_with fail
  go_loopg [5, 13] (xs.length + 1) (fun gh _ v13 wr => ∃ k : Nat, v13 = .int .i64 k ∧ (k ≤ xs.length ∧ xs.length - k < gh) ∧ Below w.heap.size w wr)
  case atStart => exact ⟨0, rfl, ⟨by omega, by omega⟩, Below.refl _ _⟩
  case round =>
    obtain ⟨k, rfl, ⟨k0, kg⟩, hb⟩ := hrel
    have KG := Lib.hid kg
    clear kg
    have HB := Lib.hid hb
    clear hb
    by_cases hk : k < xs.length
    · obtain ⟨x, hx⟩ : ∃ x, xs[k]? = some x := ⟨xs[k], List.getElem?_eq_getElem hk⟩
      have p0 : wr.cell? ⟨g1, k, none⟩ = some (.int .i64 x) := (HB.out.cell (p := ⟨g1, k, none⟩) z1).trans ((H1.out.cellAt k (by omega)).trans (by simp [hx]))
      have q0 : wr.cell? ⟨g2, k, none⟩ = some (.int .i64 x) := (HB.out.cell (p := ⟨g2, k, none⟩) z2).trans ((H2.out.cellAt k (by omega)).trans (by simp [hx]))
      clear hx
      go_wp2_with fail
      go_quiet (fail)
      go_wp2
      go_roundg (xs.length - k)
      case measure => exact KG.out
      case rel => exact ⟨k + 1, by go_num, ⟨by omega, by omega⟩, HB.out.trans (below_drewN (Below.refl _ _) _)⟩
    · go_wp2
      exact bodyPost_ret (v := .bool true) (by simp [results, Try.results55, go_sem, *]) rfl ⟨rfl, HB.out⟩
set_option maxRecDepth 100000 in
set_option maxHeartbeats 3200000 in
theorem equalI_none (a1 a2 : Option Addr) (c1 c2 : Nat) (w : World) :
    Calls Try.prog 55 #[.slice a1 0 c1, .slice a2 0 c2] w fun e w' => e = .returned (.bool true) ∧ Below w.heap.size w w' := by
  go_enter Try.func55, Try.ntmps55
  go_wp2_with fail
  go_loopg [5, 13] 1 (fun gh _ v13 wr => v13 = .int .i64 0 ∧ 0 < gh ∧ wr = w)
  case atStart => exact ⟨rfl, by omega, rfl⟩
  case round =>
    obtain ⟨rfl, h0, rfl⟩ := hrel
    go_wp2
    exact bodyPost_ret (v := .bool true) (by simp [results, Try.results55, go_sem, *]) rfl ⟨rfl, Below.refl _ _⟩
theorem equalI_any (v1 v2 : Value) (b1 b2 : Nat) (xs : List Int) (w : World) (h1 : w.ownsRow b1 3 1 v1 xs.length (xs.map (Value.int .i64))) (h2 : w.ownsRow b2 3 1 v2 xs.length (xs.map (Value.int .i64))) (hn : xs.length ≤ 5000) :
    Calls Try.prog 55 #[v1, v2] w fun e w' => e = .returned (.bool true) ∧ Below w.heap.size w w' := by
  by_cases h0 : xs.length = 0
  · obtain ⟨a1, c1, rfl⟩ := owns_slice h1
    obtain ⟨a2, c2, rfl⟩ := owns_slice h2
    rw [h0]
    exact equalI_none a1 a2 c1 c2 w
  · have r1 := h1
    have r2 := h2
    rcases h1.2 with ⟨_, q⟩ | ⟨g1, c1, _, rfl, _⟩
    · exact absurd q h0
    · rcases h2.2 with ⟨_, q⟩ | ⟨g2, c2, _, rfl, _⟩
      · exact absurd q h0
      · exact equalI_some g1 g2 c1 c2 b1 b2 xs w r1 r2 hn
end Go.Proofs.Ytmelknodmbdhpaa
namespace Go.Proofs.Ytmelknodmbdhpaa
open Go.RowKit
/-- a change of a range returns a range and an error -/
def Ret4 (f : FuncId) (l h s n a b c e : Int) : Prop := ∀ w : World, Calls Try.prog f #[.agg #[.int .i64 l, .int .i64 h, .int .i64 s], .int .i64 n] w fun e' w' => e' = .returned (.tuple #[.agg #[.int .i64 a, .int .i64 b, .int .i64 c], .int .i64 e]) ∧ Below w.heap.size w w'
set_option maxHeartbeats 800000 in
theorem byChk (l h s n : Int) (hl : I64 l) (hh : I64 h) (hs : I64 s) (hk : ¬ chk l h s = 0) : Ret4 31 l h s n 0 0 0 (chk l h s) := by
  have hn : (chk l h s != 0) = true := by simp [hk]
  clear hk
  intro w
  go_enter Try.func31, Try.ntmps31
  go_wp2_with fail
  refine (check64 l h s _ hl hh hs).mono ?_
  rintro e w1 ⟨rfl, hb1⟩
  obtain ⟨W1, z1, ⟨x0, x1, x2⟩, xn, ⟨y0, y1, y2⟩, f0, f1, f2⟩ := res3b hb1
  clear hb1
  go_wp2
  refine bodyPost_ret (v := .tuple #[.agg #[.int .i64 0, .int .i64 0, .int .i64 0], .int .i64 (chk l h s)]) (by simp [results, Try.results31, go_sem, *]) rfl ⟨rfl, ?_⟩
  repeat (first | exact W1.out | refine Below.setCell ?_ (by simp; try omega) _)
end Go.Proofs.Ytmelknodmbdhpaa
namespace Go.Proofs.Ytmelknodmbdhpaa
open Go.RowKit
/-- a right range that is not empty, as steps -/
theorem steps {l h s : Int} (hk : chk l h s = 0) (hle : l ≤ h) : h - l = (siz l h s - 1) * magA s ∧ 1 ≤ siz l h s ∧ 1 ≤ magA s ∧ s ≠ 0 := by
  have e := siz_ok hk hle
  rcases chk_zero hk with ⟨rfl, rfl, rfl⟩ | ⟨a1, a2, a3, a4, a5, a6, a7, a8, a9, _⟩
  · omega
  · have q := quo_bd (h - l) (magA s) (by omega) a7
    refine ⟨?_, by omega, a7, a4⟩
    have := ediv_mul (h - l) (magA s)
    rw [e, show (h - l) / magA s + 1 - 1 = (h - l) / magA s by omega, this]; omega
end Go.Proofs.Ytmelknodmbdhpaa
namespace Go.Proofs.Ytmelknodmbdhpaa
open Go.RowKit
/-- the range that By returns -/
def byT (l h s n : Int) : R3 := nrm (byLo l h (magA s) (decide (s < 0)) n) (byHi l h (magA s) (decide (s < 0)) n) (magA s * magA n) (byDn (decide (s < 0)) n)
theorem by_ret (l h s n : Int) (hk : chk l h s = 0) (hle : l ≤ h) (n0 : ¬ n = 0) (n1 : -1000000 ≤ n) (n2 : n ≤ 1000000) :
    Ret4 31 l h s n (byT l h s n).1 (byT l h s n).2.1 (byT l h s n).2.2 0 := fun w => By_ok l h s n w (Lib.hid hk) hle n0 n1 n2
theorem nrm_two {lo hi : Int} (c : lo < hi) (st : Int) (dn : Bool) : nrm lo hi st dn = (lo, hi, if dn = true then -st else st) := by
  unfold nrm nL nH nS
  rw [if_neg (by omega), if_neg (by omega), if_neg (by omega), if_neg (by omega)]
theorem step_zero {l h s : Int} (hk : chk l h s = 0) (hle : l ≤ h) : (h - l) % (magA s * 1) = 0 := by
  obtain ⟨st, _⟩ := steps_a hk hle
  rw [Int.mul_one]
  exact Int.emod_eq_zero_of_dvd ⟨siz l h s - 1, by rw [st, Int.mul_comm]⟩
theorem byT_back {l h s : Int} (hk : chk l h s = 0) (hle : l ≤ h) : byT l h s (-1) = nrm l h (magA s) (!decide (s < 0)) := by
  unfold byT byLo byHi byDn
  rw [show magA (-1) = 1 from rfl, step_zero hk hle, decide_eq_true (show (-1 : Int) < 0 by omega), Int.mul_one]
  cases decide (s < 0) <;> simp
end Go.Proofs.Ytmelknodmbdhpaa
namespace Go.Proofs.Ytmelknodmbdhpaa
open Go.RowKit
/-- a range with its numbers in ascending order -/
def upR (A : R3) : R3 := (A.1, A.2.1, magA A.2.2)
theorem by_minus (l h s : Int) (hk : chk l h s = 0) (hs : s < 0) : Ret4 31 l h s (-1) l h (magA s) 0 := by
  have bA := chk_bounds hk
  have hlt : l < h := by
    rcases chk_zero hk with ⟨_, _, rfl⟩ | ⟨_, _, _, _, _, _, _, _, _, one⟩
    · omega
    · by_cases c : l = h
      · have := one c; omega
      · omega
  have r := by_ret l h s (-1) hk (by omega) (by omega) (by omega) (by omega)
  rw [byT_back hk (by omega), nrm_two hlt] at r
  simp only [hs, decide_true, Bool.not_true, Bool.false_eq_true, if_false] at r
  exact r
set_option maxRecDepth 100000 in
set_option maxHeartbeats 3200000 in
theorem ofClo (c0 ba oa n ca i : Nat) (a0 a1 a2 : Int) (w : World) (p0 : w.cell? ⟨c0, 0, none⟩ = some (.slice (some ⟨ba, oa, none⟩) n ca)) (p1 : w.cell? ⟨ba, oa + i * 3, none⟩ = some (.int .i64 a0)) (p2 : w.cell? ⟨ba, oa + i * 3 + 1, none⟩ = some (.int .i64 a1)) (p3 : w.cell? ⟨ba, oa + i * 3 + 2, none⟩ = some (.int .i64 a2)) (hi : i < n) (hn : n ≤ 2) (h0 : I64 a0) (h1 : I64 a1) (h2 : I64 a2) :
    Calls Try.prog 140 #[.int .i64 i, .pointer (some ⟨c0, 0, none⟩)] w fun e w' => ∃ (x0 x1 x2 er : Int), e = .returned (.tuple #[.agg #[.int .i64 x0, .int .i64 x1, .int .i64 x2], .int .i64 er]) ∧ Below w.heap.size w w' ∧ Hid (er = chk a0 a1 a2 ∧ (er = 0 → (x0, x1, x2) = upR (a0, a1, a2))) := by
  have zc0 : c0 < w.heap.size := World.block_lt_of_cell? w _ p0
  have zba : ba < w.heap.size := World.block_lt_of_cell? w _ p1
  have W1 : Hid (Below w.heap.size w (w.alloc (.cells #[.int .i64 0, .int .i64 0, .int .i64 0] 23))) := Lib.hid (below_new _ _)
  have N1 := Lib.hid (B3.new (.int .i64 0) (.int .i64 0) (.int .i64 0) 23 w)
  have p0 := (W1.out.cell (p := ⟨c0, 0, none⟩) zc0).trans p0
  have p1 := (W1.out.cell (p := ⟨ba, oa + i * 3, none⟩) zba).trans p1
  have p2 := (W1.out.cell (p := ⟨ba, oa + i * 3 + 1, none⟩) zba).trans p2
  have p3 := (W1.out.cell (p := ⟨ba, oa + i * 3 + 2, none⟩) zba).trans p3
  have z1 := W1.out.size
  have n0 := N1.out.size
  have f0 := N1.out.f0
  have f1 := N1.out.f1
  have f2 := N1.out.f2
  have d0 := N1.out.c0
  have d1 := N1.out.c1
  have d2 := N1.out.c2
  go_enter Try.func140, Try.ntmps140
  go_upto_region 1 with fail
  generalize w.alloc (.cells #[.int .i64 0, .int .i64 0, .int .i64 0] 23) = w1 at *
  by_cases ng : a2 < 0
  · have HN := Lib.hid ng
    by_cases c : chk a0 a1 a2 = 0
    · have r := Lib.hid (by_minus a0 a1 a2 c ng)
      have C := Lib.hid c
      clear c
      go_wp2_with fail
      refine (r.out _).mono ?_
      rintro e w2 ⟨rfl, hb⟩
      have W2 := Lib.hid (W1.out.trans (hb.mono W1.out.size))
      have N2 := Lib.hid (N1.out.keep hb)
      clear hb f0 f1 f2 d0 d1 d2 p0 p1 p2 p3
      have f0 := N2.out.f0
      have f1 := N2.out.f1
      have f2 := N2.out.f2
      have d0 := N2.out.c0
      have d1 := N2.out.c1
      have d2 := N2.out.c2
      go_wp2
      refine bodyPost_ret (v := .tuple #[.agg #[.int .i64 a0, .int .i64 a1, .int .i64 (magA a2)], .int .i64 0]) (by simp [results, Try.results140, go_sem, *]) rfl ⟨_, _, _, _, rfl, ?_, Lib.hid ⟨C.out.symm, fun _ => rfl⟩⟩
      repeat (first | exact W2.out | refine Below.setCell ?_ (by simp; try omega) _)
    · have r := Lib.hid (byChk a0 a1 a2 (-1) h0 h1 h2 c)
      have C := Lib.hid c
      clear c
      go_wp2_with fail
      refine (r.out _).mono ?_
      rintro e w2 ⟨rfl, hb⟩
      have W2 := Lib.hid (W1.out.trans (hb.mono W1.out.size))
      have N2 := Lib.hid (N1.out.keep hb)
      clear hb f0 f1 f2 d0 d1 d2 p0 p1 p2 p3
      have f0 := N2.out.f0
      have f1 := N2.out.f1
      have f2 := N2.out.f2
      have d0 := N2.out.c0
      have d1 := N2.out.c1
      have d2 := N2.out.c2
      go_wp2
      refine bodyPost_ret (v := .tuple #[.agg #[.int .i64 0, .int .i64 0, .int .i64 0], .int .i64 (chk a0 a1 a2)]) (by simp [results, Try.results140, go_sem, *]) rfl ⟨_, _, _, _, rfl, ?_, Lib.hid ⟨rfl, fun e => absurd e C.out⟩⟩
      repeat (first | exact W2.out | refine Below.setCell ?_ (by simp; try omega) _)
  · have HN := Lib.hid ng
    go_upto_region 3 with fail
    clear f0 f1 f2 d0 d1 d2
    refine wp_region_held_drew (S := (fun w' => w'.cell? ⟨c0, 0, none⟩ = some (.slice (some ⟨ba, oa, none⟩) n ca) ∧ w'.cell? ⟨ba, oa + i * 3, none⟩ = some (.int .i64 a0) ∧ w'.cell? ⟨ba, oa + i * 3 + 1, none⟩ = some (.int .i64 a1) ∧ w'.cell? ⟨ba, oa + i * 3 + 2, none⟩ = some (.int .i64 a2))) (by kernel_rfl) ?_ (fun hHeld => ?_)
    · first | exact hHeld | exact ⟨p0, p1, p2, p3⟩ | (obtain ⟨q0, q1, q2, q3⟩ := hHeld; refine ⟨?_, ?_, ?_, ?_⟩ <;> simp [go_sem, *]; done) | go_keep
    refine wpAnyH_take (i := 0) (oi := { dst := some 18, op := Op.load 40 (Operand.tmp 1), type := 40, pos := "domain.go:24", after := #[], guard := none }) (v := ?_) rfl (by kernel_rfl) (by kernel_rfl) (by kernel_rfl) (fun _ _ _ h => h) (Or.inl ⟨by rfl, ?_⟩) (by assumption) ?_
    rotate_left
    · (intro w hSw; (try dsimp only at hSw); go_simp; first | done | with_reducible rfl)
    try simp only [Act.put, List.setIfInBounds_toArray, List.set_cons_zero, List.set_cons_succ]
    refine wpAnyH_take (i := 1) (oi := { dst := some 19, op := Op.move (Operand.tmp 0), type := 3, pos := "domain.go:24", after := #[], guard := none }) (v := ?_) rfl (by kernel_rfl) (by kernel_rfl) (by kernel_rfl) (fun _ _ _ h => h) (Or.inl ⟨by rfl, ?_⟩) (by assumption) ?_
    rotate_left
    · (intro w hSw; (try dsimp only at hSw); go_simp; first | done | with_reducible rfl)
    try simp only [Act.put, List.setIfInBounds_toArray, List.set_cons_zero, List.set_cons_succ]
    refine wpAnyH_take (i := 2) (oi := { dst := some 20, op := Op.indexAddr 40 (Operand.tmp 18) (Operand.tmp 19), type := 0, pos := "domain.go:24", after := #[{ on := 0, ground := Ground.data }, { on := 1, ground := Ground.data }], guard := none }) (v := ?_) rfl (by kernel_rfl) (by kernel_rfl) (by kernel_rfl) (fun _ _ _ h => h) (Or.inl ⟨by rfl, ?_⟩) (by assumption) ?_
    rotate_left
    · (intro w hSw; (try dsimp only at hSw); go_simp; first | done | with_reducible rfl)
    try simp only [Act.put, List.setIfInBounds_toArray, List.set_cons_zero, List.set_cons_succ]
    refine wpAnyH_take (i := 3) (oi := { dst := some 21, op := Op.load 23 (Operand.tmp 20), type := 23, pos := "domain.go:24", after := #[{ on := 2, ground := Ground.data }], guard := none }) (v := ?_) rfl (by kernel_rfl) (by kernel_rfl) (by kernel_rfl) (fun _ _ _ h => h) (Or.inl ⟨by rfl, ?_⟩) (by assumption) ?_
    rotate_left
    · (intro w hSw; (try dsimp only at hSw); go_simp; first | done | with_reducible rfl)
    try simp only [Act.put, List.setIfInBounds_toArray, List.set_cons_zero, List.set_cons_succ]
    refine wpAnyH_take (i := 4) (oi := { dst := some 22, op := Op.load 40 (Operand.tmp 1), type := 40, pos := "domain.go:24", after := #[], guard := none }) (v := ?_) rfl (by kernel_rfl) (by kernel_rfl) (by kernel_rfl) (fun _ _ _ h => h) (Or.inl ⟨by rfl, ?_⟩) (by assumption) ?_
    rotate_left
    · (intro w hSw; (try dsimp only at hSw); go_simp; first | done | with_reducible rfl)
    try simp only [Act.put, List.setIfInBounds_toArray, List.set_cons_zero, List.set_cons_succ]
    refine wpAnyH_take (i := 5) (oi := { dst := some 23, op := Op.move (Operand.tmp 0), type := 3, pos := "domain.go:24", after := #[], guard := none }) (v := ?_) rfl (by kernel_rfl) (by kernel_rfl) (by kernel_rfl) (fun _ _ _ h => h) (Or.inl ⟨by rfl, ?_⟩) (by assumption) ?_
    rotate_left
    · (intro w hSw; (try dsimp only at hSw); go_simp; first | done | with_reducible rfl)
    try simp only [Act.put, List.setIfInBounds_toArray, List.set_cons_zero, List.set_cons_succ]
    refine wpAnyH_take (i := 6) (oi := { dst := some 24, op := Op.indexAddr 40 (Operand.tmp 22) (Operand.tmp 23), type := 0, pos := "domain.go:24", after := #[{ on := 4, ground := Ground.data }, { on := 5, ground := Ground.data }], guard := none }) (v := ?_) rfl (by kernel_rfl) (by kernel_rfl) (by kernel_rfl) (fun _ _ _ h => h) (Or.inl ⟨by rfl, ?_⟩) (by assumption) ?_
    rotate_left
    · (intro w hSw; (try dsimp only at hSw); go_simp; first | done | with_reducible rfl)
    try simp only [Act.put, List.setIfInBounds_toArray, List.set_cons_zero, List.set_cons_succ]
    refine wpAnyH_take (i := 7) (oi := { dst := some 25, op := Op.load 23 (Operand.tmp 24), type := 23, pos := "domain.go:24", after := #[{ on := 6, ground := Ground.data }], guard := none }) (v := ?_) rfl (by kernel_rfl) (by kernel_rfl) (by kernel_rfl) (fun _ _ _ h => h) (Or.inl ⟨by rfl, ?_⟩) (by assumption) ?_
    rotate_left
    · (intro w hSw; (try dsimp only at hSw); go_simp; first | done | with_reducible rfl)
    try simp only [Act.put, List.setIfInBounds_toArray, List.set_cons_zero, List.set_cons_succ]
    refine wpAnyH_ready (rs := [8]) (by kernel_rfl) (by simp) ?_
    refine AllReadyH.cons (o := { dst := some 26, op := Op.call { callee := Callee.value (Operand.func 24), args := #[Operand.tmp 25], argTypes := #[23] }, type := 24, pos := "domain.go:24", after := #[{ on := 7, ground := Ground.data }], guard := none }) rfl (fun K hK => ?_) AllReadyH.nil
    go_simp
    refine (check64 a0 a1 a2 _ h0 h1 h2).mono ?_
    rintro e w2 ⟨rfl, hb⟩
    have hb : Below w1.heap.size w1 w2 := ⟨hb.os, hb.tape, hb.output, hb.size, hb.block⟩
    have W2 := Lib.hid (W1.out.trans (hb.mono W1.out.size))
    have N2 := Lib.hid (N1.out.keep hb)
    have f0 := N2.out.f0
    have f1 := N2.out.f1
    have f2 := N2.out.f2
    have d0 := N2.out.c0
    have d1 := N2.out.c1
    have d2 := N2.out.c2
    go_wp2_with fail
    refine hK.out _ _ ?_ (fun hHeld8 => ?_)
    · (obtain ⟨q0, q1, q2, q3⟩ := hHeld; exact ⟨(hb.cell (p := ⟨c0, 0, none⟩) (by first | (simp; done) | (simp; omega))).trans q0, (hb.cell (p := ⟨ba, oa + i * 3, none⟩) (by first | (simp; done) | (simp; omega))).trans q1, (hb.cell (p := ⟨ba, oa + i * 3 + 1, none⟩) (by first | (simp; done) | (simp; omega))).trans q2, (hb.cell (p := ⟨ba, oa + i * 3 + 2, none⟩) (by first | (simp; done) | (simp; omega))).trans q3⟩)
    clear hK K hHeld
    have hHeld := hHeld8
    clear hHeld8
    try simp only [Act.put, List.setIfInBounds_toArray, List.set_cons_zero, List.set_cons_succ]
    refine wpAnyH_ready (rs := [9]) (by kernel_rfl) (by simp) ?_
    refine AllReadyH.cons (o := { dst := none, op := Op.store 23 (Operand.tmp 3) (Operand.tmp 21), type := 0, pos := "domain.go:24", after := #[{ on := 3, ground := Ground.data }, { on := 8, ground := Ground.chain }, { on := 0, ground := Ground.phase }, { on := 1, ground := Ground.phase }, { on := 2, ground := Ground.phase }, { on := 3, ground := Ground.phase }, { on := 4, ground := Ground.textOnly Departure.lateStores }, { on := 5, ground := Ground.textOnly Departure.lateStores }, { on := 6, ground := Ground.textOnly Departure.lateStores }, { on := 7, ground := Ground.textOnly Departure.lateStores }, { on := 8, ground := Ground.textOnly Departure.lateStoresUnsure }], guard := none }) rfl (fun K hK => ?_) AllReadyH.nil
    go_simp
    refine hK.out _ _ ?_ (fun hHeld9 => ?_)
    · first | exact hHeld | exact ⟨p0, p1, p2, p3⟩ | (obtain ⟨q0, q1, q2, q3⟩ := hHeld; refine ⟨?_, ?_, ?_, ?_⟩ <;> simp [go_sem, *]; done) | go_keep
    clear hK K hHeld
    have hHeld := hHeld9
    clear hHeld9
    try simp only [Act.put, List.setIfInBounds_toArray, List.set_cons_zero, List.set_cons_succ]
    refine wpAnyH_take (i := 10) (oi := { dst := some 4, op := Op.assign (Operand.tmp 26), type := 24, pos := "domain.go:24", after := #[{ on := 8, ground := Ground.data }, { on := 9, ground := Ground.chain }, { on := 0, ground := Ground.phase }, { on := 1, ground := Ground.phase }, { on := 2, ground := Ground.phase }, { on := 3, ground := Ground.phase }, { on := 4, ground := Ground.phase }, { on := 5, ground := Ground.phase }, { on := 6, ground := Ground.phase }, { on := 7, ground := Ground.phase }, { on := 8, ground := Ground.phase }, { on := 9, ground := Ground.phase }], guard := none }) (v := ?_) rfl (by kernel_rfl) (by kernel_rfl) (by kernel_rfl) (fun _ _ _ h => h) (Or.inl ⟨by rfl, ?_⟩) (by assumption) ?_
    rotate_left
    · (intro w hSw; (try dsimp only at hSw); go_simp; first | done | with_reducible rfl)
    try simp only [Act.put, List.setIfInBounds_toArray, List.set_cons_zero, List.set_cons_succ]
    refine wpAnyH_done (by kernel_rfl) ?_ _
    have D := W2.out
    clear hHeld
    go_wp2
    refine bodyPost_ret (v := .tuple #[.agg #[.int .i64 a0, .int .i64 a1, .int .i64 a2], .int .i64 (chk a0 a1 a2)]) (by simp [results, Try.results140, go_sem, *]) rfl ⟨_, _, _, _, rfl, ?_, Lib.hid ⟨rfl, fun _ => ?_⟩⟩
    · repeat (first | exact D | refine Below.setCell ?_ (by simp; try omega) _)
    · unfold upR; rw [magA_pos (by have := HN.out; omega)]
/-- what the closure gives, in every world in which old memory lies as it lay -/
def GivesOf (c0 : Nat) (w0 : World) (n : Nat) (R : Nat → R3 → Int → Prop) : Prop := ∀ i : Nat, i < n → ∀ w : World, Below w0.heap.size w0 w →
  Calls Try.prog 140 #[.int .i64 i, .pointer (some ⟨c0, 0, none⟩)] w fun e w' => ∃ (x0 x1 x2 er : Int), e = .returned (.tuple #[.agg #[.int .i64 x0, .int .i64 x1, .int .i64 x2], .int .i64 er]) ∧ Below w.heap.size w w' ∧ Hid (R i (x0, x1, x2) er)
set_option maxRecDepth 100000 in
set_option maxHeartbeats 6400000 in
theorem eachOf (c0 : Nat) (v : Value) (L : List R3) (k s h : Int) (R : Nat → R3 → Int → Prop) (w : World) (hr : Rd w v L) (hn : L.length ≤ 2) (hg : GivesOf c0 w L.length R) :
    Calls Try.prog 139 #[.agg #[v, .int .i64 k, .int .i64 s, .int .i64 h], .func (.func 140) #[] #[.pointer (some ⟨c0, 0, none⟩)]] w (EachRet R L.length k s h w) := by
  obtain ⟨ao0, cap0, rfl, hc⟩ := hr
  obtain ⟨i0, hi, hz0, hz1, hz2⟩ := info_parts Try.infoRange
  have HG := Lib.hid hg
  clear hc hg
  generalize L.length = n at *
  clear L
  have E0 : Hid (ESt w (.slice ao0 n cap0) k s h [] none 0 (((w.alloc (.cells #[.slice ao0 n cap0, .int .i64 k, .int .i64 s, .int .i64 h] 62)).alloc (.cells #[.slice none 0 0, .int .i64 0, .int .i64 0, .int .i64 0] 62)).alloc (.cells #[.slice none 0 0, .int .i64 k, .int .i64 s, .int .i64 h] 62))) := Lib.hid ESt.new
  go_enter Try.func139, Try.ntmps139
  go_wp2_with fail
  go_loopg [7, 8, 9, 16] (n + 1) (fun gh _ _ _ v16 wr => ∃ (X : List R3) (ao : Option Addr) (cap : Nat), v16 = .int .i64 X.length ∧ (X.length ≤ n ∧ n - X.length < gh) ∧ Hid (∀ i x, X[i]? = some x → R i x 0) ∧ Hid (ESt w (.slice ao0 n cap0) k s h X ao cap wr))
  case atStart => exact ⟨[], none, 0, rfl, ⟨by simp, by simp⟩, Lib.hid (fun i x hx => by simp at hx), E0⟩
  case round =>
    obtain ⟨X, ao, cap, rfl, ⟨j0, jg⟩, hz, E1⟩ := hrel
    have KG := Lib.hid jg
    clear jg E0
    have r0 := E1.out.r.c0
    have r1 := E1.out.r.c1
    have r2 := E1.out.r.c2
    have r3 := E1.out.r.c3
    have g0 := E1.out.r.f0
    have z0 := E1.out.z.f0
    have z1 := E1.out.z.f1
    have z2 := E1.out.z.f2
    have z3 := E1.out.z.f3
    by_cases hj : X.length < n
    · have jw : IntKind.i64.wrap ((X.length : Int) + 1) = (X.length : Int) + 1 := IntWalk.i64_in _ (by omega)
      go_wp2_with fail
      refine (HG.out X.length hj _ E1.out.below).mono ?_
      rintro e w2 ⟨x0, x1, x2, er, rfl, hb2, FX⟩
      have E2 := Lib.hid (E1.out.keep hb2)
      clear hb2 E1 r0 r1 r2 r3 g0 z0 z1 z2 z3
      have E3 := Lib.hid (E2.out.keep (below_new w2 (.cells #[.int .i64 x0, .int .i64 x1, .int .i64 x2] 23)))
      have X3 := Lib.hid (B3.new (.int .i64 x0) (.int .i64 x1) (.int .i64 x2) 23 w2)
      clear E2
      by_cases c : er = 0
      · subst c
        go_upto_region 8 with fail
        generalize w2.alloc (.cells #[.int .i64 x0, .int .i64 x1, .int .i64 x2] 23) = w3 at *
        generalize w2.heap.size = xb at *
        have r0 := E3.out.r.c0
        have r1 := E3.out.r.c1
        have r2 := E3.out.r.c2
        have r3 := E3.out.r.c3
        have g0 := E3.out.r.f0
        have x0' := X3.out.c0
        have x1' := X3.out.c1
        have x2' := X3.out.c2
        have sz := E3.out.size
        have zx := X3.out.size
        go_wp2_with (first | (at_builtin; refine wpList_append_own _ rfl (.tmp 30) (.tmp 32) 40 rfl (w.heap.size + 3) 23 i0 (.agg #[.int .i64 0, .int .i64 0, .int .i64 0]) 3 24 Try.underlying40 hi hz0 hz1 hz2 rfl (by decide) _ X.length (cells3 X) rfl (E3.out.own.alloc _) ⟨w3.heap.size, 0, none⟩ 1 1 (cells3 [(x0, x1, x2)]) rfl rfl ?c1 ?c2 ?c3 ?c4 ?c5 ?_))
        case c1 => exact World.news_of_block (cs := #[.int .i64 x0, .int .i64 x1, .int .i64 x2]) (t := 23) (fr := (0, 0)) (heap_alloc_new w3 _)
        case c2 => exact cells3_one _
        case c3 => unfold maxLen; omega
        case c4 => omega
        case c5 => simp; omega
        intro v' w4 own4 grow4 _
        obtain ⟨g', cap', rfl⟩ := ownsRow_succ own4
        have E4 := Lib.hid ((E3.out.keep (below_new w3 (.cells #[.int .i64 x0, .int .i64 x1, .int .i64 x2] 23))).add own4 grow4)
        have B4 : Below (w.heap.size + 3) (w3.alloc (.cells #[.int .i64 x0, .int .i64 x1, .int .i64 x2] 23)) w4 := (Below.refl _ _).grown grow4 (by simp; omega) (fun g hg => (((E3.out.own.alloc (.cells #[.int .i64 x0, .int .i64 x1, .int .i64 x2] 23)).lt g hg)).1)
        have R4 := Lib.hid (blk_under (E3.out.r.keep (below_new w3 (.cells #[.int .i64 x0, .int .i64 x1, .int .i64 x2] 23))) B4 (by omega))
        clear own4 grow4 B4 E3 X3 r0 r1 r2 r3 g0 x0' x1' x2' sz zx
        have r0 := R4.out.c0
        have g0 := R4.out.f0
        go_wp2_with fail
        go_roundg (n - X.length)
        case measure => exact KG.out
        case rel => exact ⟨X ++ [(x0, x1, x2)], _, _, by simp, ⟨by simp; omega, by simp; omega⟩, Lib.hid (fun i x hx => by
            by_cases c : i < X.length
            · rw [List.getElem?_append_left c] at hx; exact hz.out i x hx
            · rw [List.getElem?_append_right (by omega)] at hx
              have e : i = X.length := by
                have := (List.getElem?_eq_some_iff.1 hx).1
                simp at this; omega
              subst e
              simp at hx; subst hx; exact FX.out), E4⟩
      · have c' : (er != 0) = true := by simp [c]
        have C := Lib.hid c
        clear c
        go_upto_region 7 with fail
        generalize w2.alloc (.cells #[.int .i64 x0, .int .i64 x1, .int .i64 x2] 23) = w3 at *
        have z0 := E3.out.z.f0
        have z1 := E3.out.z.f1
        have z2 := E3.out.z.f2
        have z3 := E3.out.z.f3
        have q0 := E3.out.z.c0
        have q1 := E3.out.z.c1
        have q2 := E3.out.z.c2
        have q3 := E3.out.z.c3
        go_wp2
        refine bodyPost_ret (v := .tuple #[.agg #[.slice none 0 0, .int .i64 0, .int .i64 0, .int .i64 0], .int .i64 er]) (by simp [results, Try.results139, go_sem, *]) rfl ⟨_, _, _, _, _, rfl, ?_, Lib.hid (Or.inr ⟨X.length, (x0, x1, x2), hj, FX.out, C.out, fun i hi => ?_, rfl, rfl, rfl, rfl⟩)⟩
        · repeat (first | exact E3.out.below | refine Below.setCell ?_ (by simp; try omega) _)
        · exact ⟨X[i]'hi, hz.out i _ (List.getElem?_eq_getElem hi)⟩
    · obtain rfl : X.length = n := by omega
      have q0 := E1.out.z.c0
      have q1 := E1.out.z.c1
      have q2 := E1.out.z.c2
      have q3 := E1.out.z.c3
      go_wp2
      refine bodyPost_ret (v := .tuple #[.agg #[.slice ao X.length cap, .int .i64 k, .int .i64 s, .int .i64 h], .int .i64 0]) (by simp [results, Try.results139, go_sem, *]) rfl ⟨_, _, _, _, _, rfl, ?_, Lib.hid (Or.inl ⟨X, rfl, hz.out, rfl, rfl, rfl, rfl, ?_⟩)⟩
      · repeat (first | exact E1.out.below | refine Below.setCell ?_ (by simp; try omega) _)
      · refine owns_base (base := w.heap.size + 3) ?_ (by omega)
        repeat (first | exact E1.out.own | refine ownsRow_setCell_below ?_ (by simp; try omega) _)
/-- the first error of ranges -/
def firstE : List R3 → Int
  | [] => 0
  | x :: L => if chk x.1 x.2.1 x.2.2 = 0 then firstE L else chk x.1 x.2.1 x.2.2
def ofErr (L : List R3) : Int := if rankB L.length = true then firstE L else 5
theorem firstE_zero : ∀ {L : List R3}, (∀ x ∈ L, chk x.1 x.2.1 x.2.2 = 0) → firstE L = 0
  | [], _ => rfl
  | x :: L, h => by unfold firstE; rw [if_pos (h x List.mem_cons_self)]; exact firstE_zero fun y hy => h y (List.mem_cons_of_mem _ hy)
theorem firstE_at : ∀ {L : List R3} {j : Nat} {x : R3}, L[j]? = some x → ¬ chk x.1 x.2.1 x.2.2 = 0 → (∀ i y, i < j → L[i]? = some y → chk y.1 y.2.1 y.2.2 = 0) → firstE L = chk x.1 x.2.1 x.2.2
  | [], j, x, hx, _, _ => by simp at hx
  | y :: L, 0, x, hx, hc, _ => by
    simp at hx; subst hx
    unfold firstE; rw [if_neg hc]
  | y :: L, j + 1, x, hx, hc, ha => by
    unfold firstE
    rw [if_pos (ha 0 y (by omega) rfl)]
    exact firstE_at (j := j) (by simpa using hx) hc fun i z hi hz => ha (i + 1) z (by omega) (by simpa using hz)
/-- what Of returns -/
def DOfRet (L : List R3) (w : World) : Ending → World → Prop := fun e w' => ∃ (v : Value) (er : Int), e = .returned (.tuple #[.agg #[v, .int .i64 0, .int .i64 0, .int .i64 0], .int .i64 er]) ∧ Below w.heap.size w w' ∧
  Hid (er = ofErr L ∧ ((er = 0 ∧ w'.ownsRow w.heap.size 23 3 v (L.map upR).length (cells3 (L.map upR))) ∨ (¬ er = 0 ∧ v = .slice none 0 0)))
theorem res14 {w w1 : World} {t t' : TypeId} {a p q r s : Value} (hb : Below ((w.alloc (.cells #[a] t)).alloc (.cells #[p, q, r, s] t')).heap.size ((w.alloc (.cells #[a] t)).alloc (.cells #[p, q, r, s] t')) w1) :
    Below w.heap.size w w1 ∧ w.heap.size < w1.heap.size ∧ w1.cell? ⟨w.heap.size, 0, none⟩ = some a ∧ Blk (w.heap.size + 1) p q r s w1 := by
  have e1 : (w.alloc (.cells #[a] t)).heap.size = w.heap.size + 1 := by simp
  have n1 := Blk.new p q r s t' (w.alloc (.cells #[a] t))
  rw [e1] at n1
  have hs : w.heap.size < ((w.alloc (.cells #[a] t)).alloc (.cells #[p, q, r, s] t')).heap.size := by simp; omega
  refine ⟨(((Below.refl _ _).alloc (Nat.le_refl _) _).alloc (by simp) _).trans (hb.mono (by simp; omega)), Nat.lt_of_lt_of_le hs hb.size, ?_, n1.keep hb⟩
  rw [hb.cell (p := ⟨w.heap.size, 0, none⟩) hs]; simp [go_sem]
set_option maxRecDepth 100000 in
set_option maxHeartbeats 6400000 in
theorem Dof_any (v : Value) (L : List R3) (w : World) (hr : Rd w v L) (hL : Ok3 L) :
    Calls Try.prog 60 #[v] w (DOfRet L w) := by
  obtain ⟨ao, cap, rfl, hc⟩ := hr
  have HR : Hid (Rd w (.slice ao L.length cap) L) := Lib.hid ⟨ao, cap, rfl, hc⟩
  have HCC := Lib.hid hc
  have HL := Lib.hid hL
  clear hc hL
  have R0 := Lib.hid (res14 (Below.refl _ ((w.alloc (.cells #[.slice ao L.length cap] 40)).alloc (.cells #[.slice none 0 0, .int .i64 0, .int .i64 0, .int .i64 0] 62))))
  go_enter Try.func60, Try.ntmps60
  go_upto_region 1 with fail
  generalize (w.alloc (.cells #[.slice ao L.length cap] 40)).alloc (.cells #[.slice none 0 0, .int .i64 0, .int .i64 0, .int .i64 0] 62) = w1 at *
  have x0 := R0.out.2.2.1
  have zx := R0.out.2.1
  have Z1 := Lib.hid R0.out.2.2.2
  have B1 := Lib.hid R0.out.1
  have z0 := Z1.out.c0
  have z1 := Z1.out.c1
  have z2 := Z1.out.c2
  have z3 := Z1.out.c3
  have f0 := Z1.out.f0
  have f1 := Z1.out.f1
  have f2 := Z1.out.f2
  have f3 := Z1.out.f3
  go_wp2_with fail
  refine (ranked_any _ _ _ _).mono ?_
  rintro e w' ⟨rfl, rfl⟩
  cases hq : rankB L.length
  · have E : Hid (ofErr L = 5) := Lib.hid (by unfold ofErr; rw [hq]; rfl)
    clear hq
    go_wp2
    refine bodyPost_ret (v := .tuple #[.agg #[.slice none 0 0, .int .i64 0, .int .i64 0, .int .i64 0], .int .i64 5]) (by simp [results, Try.results60, go_sem, *]) rfl ⟨_, _, rfl, ?_, Lib.hid ⟨E.out.symm, Or.inr ⟨by omega, rfl⟩⟩⟩
    repeat (first | exact B1.out | refine Below.setCell ?_ (by simp; try omega) _)
  · have E : Hid (ofErr L = firstE L) := Lib.hid (by unfold ofErr; rw [hq]; rfl)
    have rk : Hid (L.length = 1 ∨ L.length = 2) := Lib.hid (by unfold rankB at hq; simpa using hq)
    clear hq
    obtain ⟨ba, oa, rfl, hba, ca⟩ := HCC.out.resolve_left (by have := rk.out; omega)
    have CA := Lib.hid ca
    clear ca HCC
    go_wp2_with fail
    refine (eachOf w.heap.size _ L 0 0 0 (fun i (x : R3) er => ∃ A : R3, L[i]? = some A ∧ er = chk A.1 A.2.1 A.2.2 ∧ (er = 0 → x = upR A)) w1 (HR.out.keep B1.out) (by have := rk.out; omega) ?_).mono ?_
    · intro i hi w2 hb2
      obtain ⟨A, hA⟩ : ∃ A, L[i]? = some A := ⟨L[i], List.getElem?_eq_getElem hi⟩
      obtain ⟨a0, a1, a2⟩ := CA.out i A hA
      have S1 := B1.out.size
      have oA := HL.out A (List.mem_of_getElem? hA)
      have up : ∀ (b o : Nat) (u : Value), b < w.heap.size → w.cell? ⟨b, o, none⟩ = some u → w2.cell? ⟨b, o, none⟩ = some u := fun b o u hlt hu => by
        rw [hb2.cell (p := ⟨b, o, none⟩) (by simp; omega), B1.out.cell (p := ⟨b, o, none⟩) hlt]; exact hu
      refine (ofClo w.heap.size ba oa L.length cap i A.1 A.2.1 A.2.2 w2 ((hb2.cell (p := ⟨w.heap.size, 0, none⟩) zx).trans x0) (up _ _ _ hba a0) (up _ _ _ hba a1) (up _ _ _ hba a2) hi (by have := rk.out; omega) oA.1 oA.2.1 oA.2.2).mono ?_
      rintro e w3 ⟨y0, y1, y2, er, he, hb3, hF⟩
      exact ⟨y0, y1, y2, er, he, hb3, Lib.hid ⟨A, hA, hF.out.1, hF.out.2⟩⟩
    · rintro e w2 ⟨rv, kk, ss, hh, er, rfl, hb2, hE⟩
      have B2 := Lib.hid (B1.out.trans (hb2.mono B1.out.size))
      have Z2 := Lib.hid (Z1.out.keep hb2)
      have S1 := Lib.hid B1.out.size
      have HE : Hid ((kk = 0 ∧ ss = 0 ∧ hh = 0) ∧ er = firstE L ∧ ((er = 0 ∧ w2.ownsRow (w.heap.size + 2) 23 3 rv (L.map upR).length (cells3 (L.map upR))) ∨ (¬ er = 0 ∧ rv = .slice none 0 0))) := Lib.hid (by
        rcases hE.out with ⟨X, hX, hR, h1, h2, h3, h4, own⟩ | ⟨j, x, hj, hR, h1, hbef, h5, h2, h3, h4⟩
        · have eX : X = L.map upR := by
            apply List.ext_getElem?
            intro i
            by_cases hi : i < X.length
            · obtain ⟨A, hA, h6, h7⟩ := hR i _ (List.getElem?_eq_getElem hi)
              rw [List.getElem?_map, hA, List.getElem?_eq_getElem hi, h7 rfl]; rfl
            · rw [List.getElem?_eq_none (by omega), List.getElem?_eq_none (by simp; omega)]
          have eE : firstE L = 0 := firstE_zero fun x hx => by
            obtain ⟨i, hi, e⟩ := List.getElem_of_mem hx
            obtain ⟨A, hA, h6, _⟩ := hR i _ (List.getElem?_eq_getElem (show i < X.length by omega))
            rw [List.getElem?_eq_getElem hi, e] at hA
            cases hA; exact h6.symm
          subst eX
          exact ⟨⟨h2, h3, h4⟩, by rw [eE]; exact h1, Or.inl ⟨h1, owns_base own (by have := Z1.out.size; omega)⟩⟩
        · obtain ⟨A, hA, h6, _⟩ := hR
          refine ⟨⟨h2, h3, h4⟩, ?_, Or.inr ⟨h1, h5⟩⟩
          rw [h6]
          refine (firstE_at hA (by rw [← h6]; exact h1) fun i y hi hy => ?_).symm
          obtain ⟨z, A', hA', h8, _⟩ := hbef i hi
          rw [hy] at hA'
          cases hA'; exact h8.symm)
      clear hE hb2 x0 zx z0 z1 z2 z3 f0 f1 f2 f3
      have hrv : ∃ a n c, rv = .slice a n c := by
        rcases HE.out.2.2 with ⟨_, own⟩ | ⟨_, e⟩
        · obtain ⟨a, c, rfl⟩ := owns_slice own
          exact ⟨a, _, c, rfl⟩
        · exact ⟨_, _, _, e⟩
      obtain ⟨ra, rn, rc, rfl⟩ := hrv
      have HE2 := Lib.hid HE.out.2
      obtain ⟨rfl, rfl, rfl⟩ := HE.out.1
      clear HE
      have z0 := Z2.out.c0
      have z1 := Z2.out.c1
      have z2 := Z2.out.c2
      have z3 := Z2.out.c3
      have f0 := Z2.out.f0
      have f1 := Z2.out.f1
      have f2 := Z2.out.f2
      have f3 := Z2.out.f3
      go_wp2
      refine bodyPost_ret (v := .tuple #[.agg #[.slice ra rn rc, .int .i64 0, .int .i64 0, .int .i64 0], .int .i64 er]) (by simp [results, Try.results60, go_sem, *]) rfl ⟨_, _, rfl, ?_, Lib.hid ⟨by rw [E.out]; exact HE2.out.1, ?_⟩⟩
      · repeat (first | exact B2.out | refine Below.setCell ?_ (by simp; try omega) _)
      · rcases HE2.out.2 with ⟨h0, own⟩ | h0
        · refine Or.inl ⟨h0, owns_base (base := w.heap.size + 2) ?_ (by omega)⟩
          repeat (first | exact own | refine ownsRow_setCell_below ?_ (by simp; try omega) _)
        · exact Or.inr h0
end Go.Proofs.Ytmelknodmbdhpaa
