/-
  Part 7: DomE, ByA, SpanJ, SpanK.
-/
import Derived.Test.YtabgphlpdoockaaDr2
import Derived.Test.YtabgphlpdoockaaDr5
import Derived.Test.YtabgphlpdoockaaDr6
import Derived.BigQuiet
import Derived.Deep.AppendLies
import Derived.Deep.CutBlock
import Derived.Deep.DeepCutAuto
import Derived.Deep.DrawnRows
import Derived.Deep.LoopGhost
import Derived.Deep.QuietTactic
import Derived.Deep.RegionHeld3
import Derived.Deep.RegionWith
import Derived.Laws.AppendOwnNone
import Derived.Lib.AppendZeros
import Derived.Lib.AppendZerosOnto
import Derived.Lib.Hide
import Derived.WalkKit
import Derived.WalkLawsBesides
import Derived.WalkSpells
namespace Go.Proofs.Ytabgphlpdoockaa
open Go.RowKit
set_option maxRecDepth 100000 in
set_option maxHeartbeats 3200000 in
theorem interClo (c0 c1 ba oa bb ob n m ca cb i : Nat) (a0 a1 a2 b0 b1 b2 : Int) (w : World) (p0 : w.cell? ⟨c0, 0, none⟩ = some (.slice (some ⟨ba, oa, none⟩) n ca)) (p1 : w.cell? ⟨ba, oa + i * 3, none⟩ = some (.int .i64 a0)) (p2 : w.cell? ⟨ba, oa + i * 3 + 1, none⟩ = some (.int .i64 a1)) (p3 : w.cell? ⟨ba, oa + i * 3 + 2, none⟩ = some (.int .i64 a2)) (p4 : w.cell? ⟨c1, 0, none⟩ = some (.slice (some ⟨bb, ob, none⟩) m cb)) (p5 : w.cell? ⟨bb, ob + i * 3, none⟩ = some (.int .i64 b0)) (p6 : w.cell? ⟨bb, ob + i * 3 + 1, none⟩ = some (.int .i64 b1)) (p7 : w.cell? ⟨bb, ob + i * 3 + 2, none⟩ = some (.int .i64 b2)) (hi : i < n) (hj : i < m) (hn : n ≤ 2) (hA : Hid (chk a0 a1 a2 = 0)) (hB : Hid (chk b0 b1 b2 = 0)) :
    Calls Try.prog 151 #[.int .i64 i, .pointer (some ⟨c0, 0, none⟩), .pointer (some ⟨c1, 0, none⟩)] w fun e w' => ∃ (x0 x1 x2 er : Int), e = .returned (.tuple #[.agg #[.int .i64 x0, .int .i64 x1, .int .i64 x2], .int .i64 er]) ∧ Below w.heap.size w w' ∧ Hid (er = 0 ∧ InterF a0 a1 a2 b0 b1 b2 x0 x1 x2) := by
  have zc0 : c0 < w.heap.size := World.block_lt_of_cell? w _ p0
  have zba : ba < w.heap.size := World.block_lt_of_cell? w _ p1
  have zc1 : c1 < w.heap.size := World.block_lt_of_cell? w _ p4
  have zbb : bb < w.heap.size := World.block_lt_of_cell? w _ p5
  have W1 : Hid (Below w.heap.size w (w.alloc (.cells #[.int .i64 0, .int .i64 0, .int .i64 0] 23))) := Lib.hid (below_new _ _)
  have N1 := Lib.hid (B3.new (.int .i64 0) (.int .i64 0) (.int .i64 0) 23 w)
  have H1 := Lib.hid p0
  have p0 := (W1.out.cell (p := ⟨c0, 0, none⟩) zc0).trans p0
  have p1 := (W1.out.cell (p := ⟨ba, oa + i * 3, none⟩) zba).trans p1
  have p2 := (W1.out.cell (p := ⟨ba, oa + i * 3 + 1, none⟩) zba).trans p2
  have p3 := (W1.out.cell (p := ⟨ba, oa + i * 3 + 2, none⟩) zba).trans p3
  have p4 := (W1.out.cell (p := ⟨c1, 0, none⟩) zc1).trans p4
  have p5 := (W1.out.cell (p := ⟨bb, ob + i * 3, none⟩) zbb).trans p5
  have p6 := (W1.out.cell (p := ⟨bb, ob + i * 3 + 1, none⟩) zbb).trans p6
  have p7 := (W1.out.cell (p := ⟨bb, ob + i * 3 + 2, none⟩) zbb).trans p7
  have z1 := W1.out.size
  go_enter Try.func151, Try.ntmps151
  go_upto_region 1 with fail
  generalize w.alloc (.cells #[.int .i64 0, .int .i64 0, .int .i64 0] 23) = w1 at *
  refine wp_region_held_drew (S := (fun w' => w'.cell? ⟨c0, 0, none⟩ = some (.slice (some ⟨ba, oa, none⟩) n ca) ∧ w'.cell? ⟨ba, oa + i * 3, none⟩ = some (.int .i64 a0) ∧ w'.cell? ⟨ba, oa + i * 3 + 1, none⟩ = some (.int .i64 a1) ∧ w'.cell? ⟨ba, oa + i * 3 + 2, none⟩ = some (.int .i64 a2) ∧ w'.cell? ⟨c1, 0, none⟩ = some (.slice (some ⟨bb, ob, none⟩) m cb) ∧ w'.cell? ⟨bb, ob + i * 3, none⟩ = some (.int .i64 b0) ∧ w'.cell? ⟨bb, ob + i * 3 + 1, none⟩ = some (.int .i64 b1) ∧ w'.cell? ⟨bb, ob + i * 3 + 2, none⟩ = some (.int .i64 b2))) (by kernel_rfl) ?_ (fun hHeld => ?_)
  · first | exact hHeld | exact ⟨p0, p1, p2, p3, p4, p5, p6, p7⟩ | (obtain ⟨q0, q1, q2, q3, q4, q5, q6, q7⟩ := hHeld; refine ⟨?_, ?_, ?_, ?_, ?_, ?_, ?_, ?_⟩ <;> simp [go_sem, *]; done) | go_keep
  refine wpAnyH_take (i := 0) (oi := { dst := some 6, op := Op.fieldAddr 62 (Operand.tmp 1) 0, type := 0, pos := "sets.go:16", after := #[], guard := none }) (v := ?_) rfl (by kernel_rfl) (by kernel_rfl) (by kernel_rfl) (fun _ _ _ h => h) (Or.inl ⟨by rfl, ?_⟩) (by assumption) ?_
  rotate_left
  · (intro w hSw; (try dsimp only at hSw); go_simp; first | done | with_reducible rfl)
  try simp only [Act.put, List.setIfInBounds_toArray, List.set_cons_zero, List.set_cons_succ]
  refine wpAnyH_take (i := 1) (oi := { dst := some 7, op := Op.load 40 (Operand.tmp 6), type := 40, pos := "sets.go:16", after := #[{ on := 0, ground := Ground.data }], guard := none }) (v := ?_) rfl (by kernel_rfl) (by kernel_rfl) (by kernel_rfl) (fun _ _ _ h => h) (Or.inl ⟨by rfl, ?_⟩) (by assumption) ?_
  rotate_left
  · (intro w hSw; (try dsimp only at hSw); go_simp; first | done | with_reducible rfl)
  try simp only [Act.put, List.setIfInBounds_toArray, List.set_cons_zero, List.set_cons_succ]
  refine wpAnyH_take (i := 2) (oi := { dst := some 8, op := Op.move (Operand.tmp 0), type := 3, pos := "sets.go:16", after := #[], guard := none }) (v := ?_) rfl (by kernel_rfl) (by kernel_rfl) (by kernel_rfl) (fun _ _ _ h => h) (Or.inl ⟨by rfl, ?_⟩) (by assumption) ?_
  rotate_left
  · (intro w hSw; (try dsimp only at hSw); go_simp; first | done | with_reducible rfl)
  try simp only [Act.put, List.setIfInBounds_toArray, List.set_cons_zero, List.set_cons_succ]
  refine wpAnyH_take (i := 3) (oi := { dst := some 9, op := Op.indexAddr 40 (Operand.tmp 7) (Operand.tmp 8), type := 0, pos := "sets.go:16", after := #[{ on := 1, ground := Ground.data }, { on := 2, ground := Ground.data }], guard := none }) (v := ?_) rfl (by kernel_rfl) (by kernel_rfl) (by kernel_rfl) (fun _ _ _ h => h) (Or.inl ⟨by rfl, ?_⟩) (by assumption) ?_
  rotate_left
  · (intro w hSw; (try dsimp only at hSw); go_simp; first | done | with_reducible rfl)
  try simp only [Act.put, List.setIfInBounds_toArray, List.set_cons_zero, List.set_cons_succ]
  refine wpAnyH_take (i := 4) (oi := { dst := some 10, op := Op.load 23 (Operand.tmp 9), type := 23, pos := "sets.go:16", after := #[{ on := 3, ground := Ground.data }], guard := none }) (v := ?_) rfl (by kernel_rfl) (by kernel_rfl) (by kernel_rfl) (fun _ _ _ h => h) (Or.inl ⟨by rfl, ?_⟩) (by assumption) ?_
  rotate_left
  · (intro w hSw; (try dsimp only at hSw); go_simp; first | done | with_reducible rfl)
  try simp only [Act.put, List.setIfInBounds_toArray, List.set_cons_zero, List.set_cons_succ]
  refine wpAnyH_take (i := 5) (oi := { dst := some 11, op := Op.fieldAddr 62 (Operand.tmp 2) 0, type := 0, pos := "sets.go:16", after := #[], guard := none }) (v := ?_) rfl (by kernel_rfl) (by kernel_rfl) (by kernel_rfl) (fun _ _ _ h => h) (Or.inl ⟨by rfl, ?_⟩) (by assumption) ?_
  rotate_left
  · (intro w hSw; (try dsimp only at hSw); go_simp; first | done | with_reducible rfl)
  try simp only [Act.put, List.setIfInBounds_toArray, List.set_cons_zero, List.set_cons_succ]
  refine wpAnyH_take (i := 6) (oi := { dst := some 12, op := Op.load 40 (Operand.tmp 11), type := 40, pos := "sets.go:16", after := #[{ on := 5, ground := Ground.data }], guard := none }) (v := ?_) rfl (by kernel_rfl) (by kernel_rfl) (by kernel_rfl) (fun _ _ _ h => h) (Or.inl ⟨by rfl, ?_⟩) (by assumption) ?_
  rotate_left
  · (intro w hSw; (try dsimp only at hSw); go_simp; first | done | with_reducible rfl)
  try simp only [Act.put, List.setIfInBounds_toArray, List.set_cons_zero, List.set_cons_succ]
  refine wpAnyH_take (i := 7) (oi := { dst := some 13, op := Op.move (Operand.tmp 0), type := 3, pos := "sets.go:16", after := #[], guard := none }) (v := ?_) rfl (by kernel_rfl) (by kernel_rfl) (by kernel_rfl) (fun _ _ _ h => h) (Or.inl ⟨by rfl, ?_⟩) (by assumption) ?_
  rotate_left
  · (intro w hSw; (try dsimp only at hSw); go_simp; first | done | with_reducible rfl)
  try simp only [Act.put, List.setIfInBounds_toArray, List.set_cons_zero, List.set_cons_succ]
  refine wpAnyH_take (i := 8) (oi := { dst := some 14, op := Op.indexAddr 40 (Operand.tmp 12) (Operand.tmp 13), type := 0, pos := "sets.go:16", after := #[{ on := 6, ground := Ground.data }, { on := 7, ground := Ground.data }], guard := none }) (v := ?_) rfl (by kernel_rfl) (by kernel_rfl) (by kernel_rfl) (fun _ _ _ h => h) (Or.inl ⟨by rfl, ?_⟩) (by assumption) ?_
  rotate_left
  · (intro w hSw; (try dsimp only at hSw); go_simp; first | done | with_reducible rfl)
  try simp only [Act.put, List.setIfInBounds_toArray, List.set_cons_zero, List.set_cons_succ]
  refine wpAnyH_take (i := 9) (oi := { dst := some 15, op := Op.load 23 (Operand.tmp 14), type := 23, pos := "sets.go:16", after := #[{ on := 8, ground := Ground.data }], guard := none }) (v := ?_) rfl (by kernel_rfl) (by kernel_rfl) (by kernel_rfl) (fun _ _ _ h => h) (Or.inl ⟨by rfl, ?_⟩) (by assumption) ?_
  rotate_left
  · (intro w hSw; (try dsimp only at hSw); go_simp; first | done | with_reducible rfl)
  try simp only [Act.put, List.setIfInBounds_toArray, List.set_cons_zero, List.set_cons_succ]
  refine wpAnyH_ready (rs := [10]) (by kernel_rfl) (by simp) ?_
  refine AllReadyH.cons (o := { dst := some 16, op := Op.call { callee := Callee.value (Operand.func 43), args := #[Operand.tmp 10, Operand.tmp 15], argTypes := #[23, 23] }, type := 25, pos := "sets.go:16", after := #[{ on := 4, ground := Ground.data }, { on := 9, ground := Ground.data }], guard := none }) rfl (fun K hK => ?_) AllReadyH.nil
  go_simp
  refine (Intersect_dir a0 a1 a2 b0 b1 b2 _ hA hB).mono ?_
  rintro e w2 ⟨x0, x1, x2, hF, rfl, hb⟩
  have F := Lib.hid hF
  have hb : Below w1.heap.size w1 w2 := ⟨hb.os, hb.tape, hb.output, hb.size, hb.block⟩
  have W2 := Lib.hid (W1.out.trans (hb.mono W1.out.size))
  have N2 := Lib.hid (N1.out.keep hb)
  have f0 := N2.out.f0
  have f1 := N2.out.f1
  have f2 := N2.out.f2
  have d0 := N2.out.c0
  have d1 := N2.out.c1
  have d2 := N2.out.c2
  clear hF
  go_wp2_with fail
  refine hK.out _ _ ?_ (fun hHeld10 => ?_)
  · (obtain ⟨q0, q1, q2, q3, q4, q5, q6, q7⟩ := hHeld; exact ⟨(hb.cell (p := ⟨c0, 0, none⟩) (by first | (simp; done) | (simp; omega))).trans q0, (hb.cell (p := ⟨ba, oa + i * 3, none⟩) (by first | (simp; done) | (simp; omega))).trans q1, (hb.cell (p := ⟨ba, oa + i * 3 + 1, none⟩) (by first | (simp; done) | (simp; omega))).trans q2, (hb.cell (p := ⟨ba, oa + i * 3 + 2, none⟩) (by first | (simp; done) | (simp; omega))).trans q3, (hb.cell (p := ⟨c1, 0, none⟩) (by first | (simp; done) | (simp; omega))).trans q4, (hb.cell (p := ⟨bb, ob + i * 3, none⟩) (by first | (simp; done) | (simp; omega))).trans q5, (hb.cell (p := ⟨bb, ob + i * 3 + 1, none⟩) (by first | (simp; done) | (simp; omega))).trans q6, (hb.cell (p := ⟨bb, ob + i * 3 + 2, none⟩) (by first | (simp; done) | (simp; omega))).trans q7⟩)
  clear hK K hHeld
  have hHeld := hHeld10
  clear hHeld10
  try simp only [Act.put, List.setIfInBounds_toArray, List.set_cons_zero, List.set_cons_succ]
  refine wpAnyH_take (i := 11) (oi := { dst := some 17, op := Op.extract (Operand.tmp 16) 0, type := 23, pos := "sets.go:16", after := #[{ on := 10, ground := Ground.data }], guard := none }) (v := ?_) rfl (by kernel_rfl) (by kernel_rfl) (by kernel_rfl) (fun _ _ _ h => h) (Or.inl ⟨by rfl, ?_⟩) (by assumption) ?_
  rotate_left
  · (intro w hSw; (try dsimp only at hSw); go_simp; first | done | with_reducible rfl)
  try simp only [Act.put, List.setIfInBounds_toArray, List.set_cons_zero, List.set_cons_succ]
  refine wpAnyH_take (i := 12) (oi := { dst := some 18, op := Op.extract (Operand.tmp 16) 1, type := 24, pos := "sets.go:16", after := #[{ on := 10, ground := Ground.data }], guard := none }) (v := ?_) rfl (by kernel_rfl) (by kernel_rfl) (by kernel_rfl) (fun _ _ _ h => h) (Or.inl ⟨by rfl, ?_⟩) (by assumption) ?_
  rotate_left
  · (intro w hSw; (try dsimp only at hSw); go_simp; first | done | with_reducible rfl)
  try simp only [Act.put, List.setIfInBounds_toArray, List.set_cons_zero, List.set_cons_succ]
  refine wpAnyH_ready (rs := [13]) (by kernel_rfl) (by simp) ?_
  refine AllReadyH.cons (o := { dst := none, op := Op.store 23 (Operand.tmp 4) (Operand.tmp 17), type := 0, pos := "sets.go:16", after := #[{ on := 11, ground := Ground.data }, { on := 10, ground := Ground.chain }, { on := 0, ground := Ground.phase }, { on := 1, ground := Ground.phase }, { on := 2, ground := Ground.phase }, { on := 3, ground := Ground.phase }, { on := 4, ground := Ground.phase }, { on := 5, ground := Ground.phase }, { on := 6, ground := Ground.phase }, { on := 7, ground := Ground.phase }, { on := 8, ground := Ground.phase }, { on := 9, ground := Ground.phase }, { on := 10, ground := Ground.phase }, { on := 11, ground := Ground.phase }, { on := 12, ground := Ground.phase }], guard := none }) rfl (fun K hK => ?_) AllReadyH.nil
  go_simp
  refine hK.out _ _ ?_ (fun hHeld13 => ?_)
  · first | exact hHeld | exact ⟨p0, p1, p2, p3, p4, p5, p6, p7⟩ | (obtain ⟨q0, q1, q2, q3, q4, q5, q6, q7⟩ := hHeld; refine ⟨?_, ?_, ?_, ?_, ?_, ?_, ?_, ?_⟩ <;> simp [go_sem, *]; done) | go_keep
  clear hK K hHeld
  have hHeld := hHeld13
  clear hHeld13
  try simp only [Act.put, List.setIfInBounds_toArray, List.set_cons_zero, List.set_cons_succ]
  refine wpAnyH_take (i := 14) (oi := { dst := some 5, op := Op.assign (Operand.tmp 18), type := 24, pos := "sets.go:16", after := #[{ on := 12, ground := Ground.data }, { on := 13, ground := Ground.chain }, { on := 0, ground := Ground.phase }, { on := 1, ground := Ground.phase }, { on := 2, ground := Ground.phase }, { on := 3, ground := Ground.phase }, { on := 4, ground := Ground.phase }, { on := 5, ground := Ground.phase }, { on := 6, ground := Ground.phase }, { on := 7, ground := Ground.phase }, { on := 8, ground := Ground.phase }, { on := 9, ground := Ground.phase }, { on := 10, ground := Ground.phase }, { on := 11, ground := Ground.phase }, { on := 12, ground := Ground.phase }, { on := 13, ground := Ground.phase }], guard := none }) (v := ?_) rfl (by kernel_rfl) (by kernel_rfl) (by kernel_rfl) (fun _ _ _ h => h) (Or.inl ⟨by rfl, ?_⟩) (by assumption) ?_
  rotate_left
  · (intro w hSw; (try dsimp only at hSw); go_simp; first | done | with_reducible rfl)
  try simp only [Act.put, List.setIfInBounds_toArray, List.set_cons_zero, List.set_cons_succ]
  refine wpAnyH_done (by kernel_rfl) ?_ _
  have D := W2.out
  clear hHeld
  go_wp2
  refine bodyPost_ret (v := .tuple #[.agg #[.int .i64 x0, .int .i64 x1, .int .i64 x2], .int .i64 0]) (by simp [results, Try.results151, go_sem, *]) rfl ⟨x0, x1, x2, 0, rfl, ?_, Lib.hid ⟨rfl, F.out⟩⟩
  repeat (first | exact D | refine Below.setCell ?_ (by simp; try omega) _)
theorem dimsE_zero : ∀ {L : List R3}, dimsE L = 0 → ∀ x ∈ L, chk x.1 x.2.1 x.2.2 = 0 ∧ ¬ x.2.2 < 0
  | [], _, x, hx => by cases hx
  | y :: L, h, x, hx => by
    unfold dimsE at h
    by_cases c : dimE y = 0
    · rw [if_pos c] at h
      rcases List.mem_cons.1 hx with rfl | hx
      · unfold dimE at c
        by_cases c1 : chk x.1 x.2.1 x.2.2 = 0
        · rw [if_pos c1] at c
          refine ⟨c1, fun c2 => ?_⟩
          rw [if_pos c2] at c; omega
        · rw [if_neg c1] at c; exact absurd c c1
      · exact dimsE_zero h x hx
    · rw [if_neg c] at h; exact absurd h c
/-- what a right domain is -/
theorem dchk_zero {L : List R3} {k s h : Int} (hd : dchk L k s h = 0) : (L.length = 1 ∨ L.length = 2) ∧ plB k s h = true ∧ ∀ x ∈ L, chk x.1 x.2.1 x.2.2 = 0 ∧ ¬ x.2.2 < 0 := by
  refine ⟨dchk_rank hd, ?_⟩
  unfold dchk at hd
  by_cases c : rankB L.length = true
  · rw [if_pos c] at hd
    by_cases c1 : dimsE L = 0
    · rw [if_pos c1] at hd
      refine ⟨?_, dimsE_zero c1⟩
      cases hp : plB k s h
      · rw [hp] at hd; simp at hd
      · rfl
    · rw [if_neg c1] at hd; exact absurd hd c1
  · rw [if_neg c] at hd; omega
theorem dboth_zero {L M : List R3} {k s h k' s' h' : Int} (hd : dboth L k s h M k' s' h' = 0) : dchk L k s h = 0 ∧ dchk M k' s' h' = 0 ∧ L.length = M.length := by
  unfold dboth at hd
  by_cases c : dchk L k s h = 0
  · rw [if_pos c] at hd
    by_cases c1 : dchk M k' s' h' = 0
    · rw [if_pos c1] at hd
      by_cases c2 : L.length = M.length
      · exact ⟨c, c1, c2⟩
      · rw [if_neg c2] at hd; omega
    · rw [if_neg c1] at hd; exact absurd hd c1
  · rw [if_neg c] at hd; exact absurd hd c
/-- the ranges of two lists, met in each dimension -/
def Meets (L M X : List R3) : Prop := X.length = L.length ∧ ∀ (i : Nat) (x : R3), X[i]? = some x → ∃ A B : R3, L[i]? = some A ∧ M[i]? = some B ∧ InterF A.1 A.2.1 A.2.2 B.1 B.2.1 B.2.2 x.1 x.2.1 x.2.2
/-- what Intersect returns -/
def DInterRet (L : List R3) (k s h : Int) (M : List R3) (k' s' h' : Int) (w : World) : Ending → World → Prop := fun e w' => ∃ (v : Value) (kk ss hh er : Int), e = .returned (.tuple #[.agg #[v, .int .i64 kk, .int .i64 ss, .int .i64 hh], .int .i64 er]) ∧ Below w.heap.size w w' ∧
  Hid ((dboth L k s h M k' s' h' = 0 ∧ er = 0 ∧ kk = k ∧ ss = s ∧ hh = h ∧ ∃ X, Meets L M X ∧ w'.ownsRow w.heap.size 23 3 v X.length (cells3 X)) ∨
    (¬ dboth L k s h M k' s' h' = 0 ∧ er = dboth L k s h M k' s' h' ∧ v = .slice none 0 0 ∧ kk = 0 ∧ ss = 0 ∧ hh = 0))
theorem res444 {w w1 : World} {t : TypeId} {a b c d a' b' c' d' p q r s : Value} (hb : Below (((w.alloc (.cells #[a, b, c, d] t)).alloc (.cells #[a', b', c', d'] t)).alloc (.cells #[p, q, r, s] t)).heap.size (((w.alloc (.cells #[a, b, c, d] t)).alloc (.cells #[a', b', c', d'] t)).alloc (.cells #[p, q, r, s] t)) w1) :
    Below w.heap.size w w1 ∧ Blk w.heap.size a b c d w1 ∧ Blk (w.heap.size + 1) a' b' c' d' w1 ∧ Blk (w.heap.size + 1 + 1) p q r s w1 := by
  have e1 : (w.alloc (.cells #[a, b, c, d] t)).heap.size = w.heap.size + 1 := by simp
  have e2 : ((w.alloc (.cells #[a, b, c, d] t)).alloc (.cells #[a', b', c', d'] t)).heap.size = w.heap.size + 1 + 1 := by simp
  have n0 := ((Blk.new a b c d t w).keep (below_new _ (.cells #[a', b', c', d'] t))).keep (below_new _ (.cells #[p, q, r, s] t))
  have n1 := (Blk.new a' b' c' d' t (w.alloc (.cells #[a, b, c, d] t))).keep (below_new _ (.cells #[p, q, r, s] t))
  have n2 := Blk.new p q r s t ((w.alloc (.cells #[a, b, c, d] t)).alloc (.cells #[a', b', c', d'] t))
  rw [e1] at n1
  rw [e2] at n2
  exact ⟨((((Below.refl _ _).alloc (Nat.le_refl _) _).alloc (by simp) _).alloc (by simp; omega) _).trans (hb.mono (by simp; omega)), n0.keep hb, n1.keep hb, n2.keep hb⟩
set_option maxRecDepth 100000 in
set_option maxHeartbeats 6400000 in
theorem Dinter_any (v : Value) (L : List R3) (k s h : Int) (v' : Value) (M : List R3) (k' s' h' : Int) (w : World) (hr : Rd w v L) (hL : Ok3 L) (hr' : Rd w v' M) (hM : Ok3 M) :
    Calls Try.prog 82 #[.agg #[v, .int .i64 k, .int .i64 s, .int .i64 h], .agg #[v', .int .i64 k', .int .i64 s', .int .i64 h']] w (DInterRet L k s h M k' s' h' w) := by
  obtain ⟨ao, cap, rfl, hc⟩ := hr
  obtain ⟨ao', cap', rfl, hc'⟩ := hr'
  have HR : Hid (Rd w (.slice ao L.length cap) L) := Lib.hid ⟨ao, cap, rfl, hc⟩
  have HR' : Hid (Rd w (.slice ao' M.length cap') M) := Lib.hid ⟨ao', cap', rfl, hc'⟩
  have HCC := Lib.hid hc
  have HCC' := Lib.hid hc'
  have HL := Lib.hid hL
  have HM := Lib.hid hM
  clear hc hL hc' hM
  go_enter Try.func82, Try.ntmps82
  go_wp2_with fail
  refine (Dboth_any _ L _ _ _ _ M _ _ _ _ (((HR.out.keep (below_new _ _)).keep (below_new _ _)).keep (below_new _ _)) HL.out (((HR'.out.keep (below_new _ _)).keep (below_new _ _)).keep (below_new _ _)) HM.out).mono ?_
  rintro e w1 ⟨rfl, hb1⟩
  have R1 := res444 hb1
  have B1 := Lib.hid R1.1
  have D1 := Lib.hid R1.2.1
  have F1 := Lib.hid R1.2.2.1
  have Z1 := Lib.hid R1.2.2.2
  clear hb1 R1
  have x0 := D1.out.c0
  have x1 := D1.out.c1
  have x2 := D1.out.c2
  have x3 := D1.out.c3
  have z0 := Z1.out.c0
  have z1 := Z1.out.c1
  have z2 := Z1.out.c2
  have z3 := Z1.out.c3
  have f0 := Z1.out.f0
  have f1 := Z1.out.f1
  have f2 := Z1.out.f2
  have f3 := Z1.out.f3
  by_cases c : dboth L k s h M k' s' h' = 0
  · have c' : (dboth L k s h M k' s' h' != 0) = false := by simp [c]
    have C := Lib.hid c
    have ok := dboth_zero c
    have OK := Lib.hid ok
    have rk := Lib.hid (dchk_rank ok.1)
    clear c ok
    obtain ⟨ba, oa, rfl, hba, ca⟩ := HCC.out.resolve_left (by have := rk.out; omega)
    obtain ⟨bb, ob, rfl, hbb, cb⟩ := HCC'.out.resolve_left (by have := rk.out; have := OK.out.2.2; omega)
    have CA := Lib.hid ca
    have CB := Lib.hid cb
    clear ca cb HCC HCC'
    go_wp2_with fail
    refine (eachInter w.heap.size (w.heap.size + 1) _ L k s h (fun i (x : R3) er => er = 0 ∧ ∃ A B : R3, L[i]? = some A ∧ M[i]? = some B ∧ InterF A.1 A.2.1 A.2.2 B.1 B.2.1 B.2.2 x.1 x.2.1 x.2.2) w1 (HR.out.keep B1.out) (by have := rk.out; omega) ?_).mono ?_
    · intro i hi w2 hb2
      have ln := OK.out.2.2
      obtain ⟨A, hA⟩ : ∃ A, L[i]? = some A := ⟨L[i], List.getElem?_eq_getElem hi⟩
      obtain ⟨B, hB⟩ : ∃ B, M[i]? = some B := ⟨M[i]'(by omega), List.getElem?_eq_getElem _⟩
      obtain ⟨a0, a1, a2⟩ := CA.out i A hA
      obtain ⟨b0, b1, b2⟩ := CB.out i B hB
      have S1 := B1.out.size
      have up : ∀ (b o : Nat) (u : Value), b < w.heap.size → w.cell? ⟨b, o, none⟩ = some u → w2.cell? ⟨b, o, none⟩ = some u := fun b o u hlt hu => by
        rw [hb2.cell (p := ⟨b, o, none⟩) (by simp; omega), B1.out.cell (p := ⟨b, o, none⟩) hlt]; exact hu
      refine (interClo w.heap.size (w.heap.size + 1) ba oa bb ob L.length M.length cap cap' i A.1 A.2.1 A.2.2 B.1 B.2.1 B.2.2 w2 ((hb2.cell (p := ⟨w.heap.size, 0, none⟩) D1.out.size).trans x0) (up _ _ _ hba a0) (up _ _ _ hba a1) (up _ _ _ hba a2) ((hb2.cell (p := ⟨w.heap.size + 1, 0, none⟩) F1.out.size).trans F1.out.c0) (up _ _ _ hbb b0) (up _ _ _ hbb b1) (up _ _ _ hbb b2) hi (by omega) (by have := rk.out; omega) (Lib.hid ((dchk_zero OK.out.1).2.2 A (List.mem_of_getElem? hA)).1) (Lib.hid ((dchk_zero OK.out.2.1).2.2 B (List.mem_of_getElem? hB)).1)).mono ?_
      rintro e w3 ⟨y0, y1, y2, er, he, hb3, hF⟩
      exact ⟨y0, y1, y2, er, he, hb3, Lib.hid ⟨hF.out.1, A, B, hA, hB, hF.out.2⟩⟩
    · rintro e w2 ⟨rv, kk, ss, hh, er, rfl, hb2, hE⟩
      have B2 := Lib.hid (B1.out.trans (hb2.mono B1.out.size))
      have Z2 := Lib.hid (Z1.out.keep hb2)
      have S1 := Lib.hid B1.out.size
      have HE : Hid ((dboth L k s h M k' s' h' = 0 ∧ er = 0 ∧ kk = k ∧ ss = s ∧ hh = h ∧ ∃ X, Meets L M X ∧ w2.ownsRow (w.heap.size + 3) 23 3 rv X.length (cells3 X))) := Lib.hid (by
        rcases hE.out with ⟨X, hX, hR, h1, h2, h3, h4, own⟩ | ⟨j, x, _, hR, h1, _⟩
        · exact ⟨C.out, h1, h2, h3, h4, X, ⟨hX, fun i x hx => (hR i x hx).2⟩, owns_base own (by have := Z1.out.size; omega)⟩
        · exact absurd hR.1 h1)
      clear hE hb2 x0 x1 x2 x3 z0 z1 z2 z3 f0 f1 f2 f3
      have hrv : ∃ a n c, rv = .slice a n c := by
        obtain ⟨_, _, _, _, _, X, _, own⟩ := HE.out
        obtain ⟨a, c, rfl⟩ := owns_slice own
        exact ⟨a, _, c, rfl⟩
      obtain ⟨ra, rn, rc, rfl⟩ := hrv
      have z0 := Z2.out.c0
      have z1 := Z2.out.c1
      have z2 := Z2.out.c2
      have z3 := Z2.out.c3
      have f0 := Z2.out.f0
      have f1 := Z2.out.f1
      have f2 := Z2.out.f2
      have f3 := Z2.out.f3
      go_wp2
      refine bodyPost_ret (v := .tuple #[.agg #[.slice ra rn rc, .int .i64 kk, .int .i64 ss, .int .i64 hh], .int .i64 er]) (by simp [results, Try.results82, go_sem, *]) rfl ⟨_, _, _, _, _, rfl, ?_, Lib.hid (Or.inl ?_)⟩
      · repeat (first | exact B2.out | refine Below.setCell ?_ (by simp; try omega) _)
      · obtain ⟨h0, h1, h2, h3, h4, X, hX, own⟩ := HE.out
        refine ⟨h0, h1, h2, h3, h4, X, hX, owns_base (base := w.heap.size + 3) ?_ (by omega)⟩
        repeat (first | exact own | refine ownsRow_setCell_below ?_ (by simp; try omega) _)
  · have c' : (dboth L k s h M k' s' h' != 0) = true := by simp [c]
    have C := Lib.hid c
    clear c
    go_wp2
    refine bodyPost_ret (v := .tuple #[.agg #[.slice none 0 0, .int .i64 0, .int .i64 0, .int .i64 0], .int .i64 (dboth L k s h M k' s' h')]) (by simp [results, Try.results82, go_sem, *]) rfl ⟨_, _, _, _, _, rfl, ?_, Lib.hid (Or.inr ⟨C.out, rfl, rfl, rfl, rfl, rfl⟩)⟩
    repeat (first | exact B1.out | refine Below.setCell ?_ (by simp; try omega) _)
end Go.Proofs.Ytabgphlpdoockaa
namespace Go.Proofs.Ytabgphlpdoockaa
open Go.RowKit
set_option maxRecDepth 100000 in
set_option maxHeartbeats 3200000 in
theorem equalI_some (g1 g2 c1 c2 b1 b2 : Nat) (xs : List Int) (w : World) (h1 : w.ownsRow b1 3 1 (.slice (some ⟨g1, 0, none⟩) xs.length c1) xs.length (xs.map (Value.int .i64))) (h2 : w.ownsRow b2 3 1 (.slice (some ⟨g2, 0, none⟩) xs.length c2) xs.length (xs.map (Value.int .i64))) (hn : xs.length ≤ 5000) :
    Calls Try.prog 55 #[.slice (some ⟨g1, 0, none⟩) xs.length c1, .slice (some ⟨g2, 0, none⟩) xs.length c2] w fun e w' => e = .returned (.bool true) ∧ Below w.heap.size w w' := by
  have z1 := (h1.lt _ rfl).2
  have z2 := (h2.lt _ rfl).2
  have H1 := Lib.hid h1
  have H2 := Lib.hid h2
  clear h1 h2
  go_enter Try.func55, Try.ntmps55
  go_wp2_with fail
  go_loopg [5, 13] (xs.length + 1) (fun gh _ v13 wr => ∃ k : Nat, v13 = .int .i64 k ∧ (k ≤ xs.length ∧ xs.length - k < gh) ∧ Below w.heap.size w wr)
  case atStart => exact ⟨0, rfl, ⟨by omega, by omega⟩, Below.refl _ _⟩
  case round =>
    obtain ⟨k, rfl, ⟨k0, kg⟩, hb⟩ := hrel
    have KG := Lib.hid kg
    clear kg
    have HB := Lib.hid hb
    clear hb
    by_cases hk : k < xs.length
    · obtain ⟨x, hx⟩ : ∃ x, xs[k]? = some x := ⟨xs[k], List.getElem?_eq_getElem hk⟩
      have p0 : wr.cell? ⟨g1, k, none⟩ = some (.int .i64 x) := (HB.out.cell (p := ⟨g1, k, none⟩) z1).trans ((H1.out.cellAt k (by omega)).trans (by simp [hx]))
      have q0 : wr.cell? ⟨g2, k, none⟩ = some (.int .i64 x) := (HB.out.cell (p := ⟨g2, k, none⟩) z2).trans ((H2.out.cellAt k (by omega)).trans (by simp [hx]))
      clear hx
      go_wp2_with fail
      go_quiet (fail)
      go_wp2
      go_roundg (xs.length - k)
      case measure => exact KG.out
      case rel => exact ⟨k + 1, by go_num, ⟨by omega, by omega⟩, HB.out.trans (below_drewN (Below.refl _ _) _)⟩
    · go_wp2
      exact bodyPost_ret (v := .bool true) (by simp [results, Try.results55, go_sem, *]) rfl ⟨rfl, HB.out⟩
set_option maxRecDepth 100000 in
set_option maxHeartbeats 3200000 in
theorem equalI_none (a1 a2 : Option Addr) (c1 c2 : Nat) (w : World) :
    Calls Try.prog 55 #[.slice a1 0 c1, .slice a2 0 c2] w fun e w' => e = .returned (.bool true) ∧ Below w.heap.size w w' := by
  go_enter Try.func55, Try.ntmps55
  go_wp2_with fail
  go_loopg [5, 13] 1 (fun gh _ v13 wr => v13 = .int .i64 0 ∧ 0 < gh ∧ wr = w)
  case atStart => exact ⟨rfl, by omega, rfl⟩
  case round =>
    obtain ⟨rfl, h0, rfl⟩ := hrel
    go_wp2
    exact bodyPost_ret (v := .bool true) (by simp [results, Try.results55, go_sem, *]) rfl ⟨rfl, Below.refl _ _⟩
theorem equalI_any (v1 v2 : Value) (b1 b2 : Nat) (xs : List Int) (w : World) (h1 : w.ownsRow b1 3 1 v1 xs.length (xs.map (Value.int .i64))) (h2 : w.ownsRow b2 3 1 v2 xs.length (xs.map (Value.int .i64))) (hn : xs.length ≤ 5000) :
    Calls Try.prog 55 #[v1, v2] w fun e w' => e = .returned (.bool true) ∧ Below w.heap.size w w' := by
  by_cases h0 : xs.length = 0
  · obtain ⟨a1, c1, rfl⟩ := owns_slice h1
    obtain ⟨a2, c2, rfl⟩ := owns_slice h2
    rw [h0]
    exact equalI_none a1 a2 c1 c2 w
  · have r1 := h1
    have r2 := h2
    rcases h1.2 with ⟨_, q⟩ | ⟨g1, c1, _, rfl, _⟩
    · exact absurd q h0
    · rcases h2.2 with ⟨_, q⟩ | ⟨g2, c2, _, rfl, _⟩
      · exact absurd q h0
      · exact equalI_some g1 g2 c1 c2 b1 b2 xs w r1 r2 hn
end Go.Proofs.Ytabgphlpdoockaa
namespace Go.Proofs.Ytabgphlpdoockaa
open Go.RowKit
theorem check_four (l h s : Int) (w : World) (hl : I64 l) (hh : I64 h) (hs : I64 s) (hk : Hid (chk l h s = 4)) :
    Calls Try.prog 24 #[.agg #[.int .i64 l, .int .i64 h, .int .i64 s]] w fun e w' => e = .returned (.int .i64 4) ∧ Below w.heap.size w w' :=
  (check64 l h s w hl hh hs).mono fun _ _ ⟨he, hb⟩ => ⟨by rw [he, hk.out], hb⟩
set_option maxRecDepth 100000 in
set_option maxHeartbeats 800000 in
theorem movedChk (fv : FuncId) (caps : Array Value) (l h s : Int) (w : World) (hl : I64 l) (hh : I64 h) (hs : I64 s) (hk : ¬ chk l h s = 0) :
    Calls Try.prog 117 #[.agg #[.int .i64 l, .int .i64 h, .int .i64 s], .func (.func fv) #[] caps] w fun e w' => e = .returned (.tuple #[.agg #[.int .i64 0, .int .i64 0, .int .i64 0], .int .i64 (chk l h s)]) ∧ Below w.heap.size w w' := by
  have hn : (chk l h s != 0) = true := by simp [hk]
  clear hk
  go_enter Try.func117, Try.ntmps117
  go_wp2_with fail
  refine (check64 l h s _ hl hh hs).mono ?_
  rintro e w1 ⟨rfl, hb1⟩
  obtain ⟨W1, z1, ⟨x0, x1, x2⟩, ⟨y0, y1, y2⟩, f0, f1, f2⟩ := res2 hb1
  clear hb1
  go_wp2
  refine bodyPost_ret (v := .tuple #[.agg #[.int .i64 0, .int .i64 0, .int .i64 0], .int .i64 (chk l h s)]) (by simp [results, Try.results117, go_sem, *]) rfl ⟨rfl, ?_⟩
  repeat (first | exact W1.out | refine Below.setCell ?_ (by simp; try omega) _)
set_option maxRecDepth 100000 in
set_option maxHeartbeats 800000 in
theorem movedEmpty (fv : FuncId) (caps : Array Value) (w : World) :
    Calls Try.prog 117 #[.agg #[.int .i64 1, .int .i64 0, .int .i64 1], .func (.func fv) #[] caps] w fun e w' => e = .returned (.tuple #[.agg #[.int .i64 1, .int .i64 0, .int .i64 1], .int .i64 0]) ∧ Below w.heap.size w w' := by
  go_enter Try.func117, Try.ntmps117
  go_wp2_with fail
  refine (check_ok 1 0 1 _ ⟨by omega, by omega⟩ ⟨by omega, by omega⟩ ⟨by omega, by omega⟩ (Lib.hid (show chk 1 0 1 = 0 by decide))).mono ?_
  rintro e w1 ⟨rfl, hb1⟩
  obtain ⟨W1, z1, ⟨x0, x1, x2⟩, Y, F⟩ := res2 hb1
  have Y1 := Lib.hid Y
  have F1 := Lib.hid F
  clear hb1 Y F
  go_wp2_with fail
  refine (Size_empty _).mono ?_
  rintro e w2 ⟨rfl, hb2⟩
  have W2 := hidTrans W1 hb2 (by omega)
  obtain ⟨z2, y0, y1, y2⟩ := keep3 hb2 (show w.heap.size < w1.heap.size by omega) x0 x1 x2
  obtain ⟨⟨g0, g1, g2⟩, f0, f1, f2⟩ := keepF hb2 z1 Y1.out F1.out
  clear hb2 W1 x0 x1 x2
  go_wp2
  refine bodyPost_ret (v := .tuple #[.agg #[.int .i64 1, .int .i64 0, .int .i64 1], .int .i64 0]) (by simp [results, Try.results117, go_sem, *]) rfl ⟨rfl, ?_⟩
  repeat (first | exact W2.out | refine Below.setCell ?_ (by simp; try omega) _)
set_option maxHeartbeats 800000 in
theorem moved_Translate (b o : Nat) (vn : Value) (l h s l' h' st' : Int) (dn' : Bool) (w : World) (hk : Hid (chk l h s = 0)) (hle : l ≤ h) (hc : w.cell? ⟨b, o, none⟩ = some vn)
    (hm : Moves 120 ⟨b, o, none⟩ vn l h (magA s) (decide (s < 0)) l' h' st' dn') (hl' : I64 l') (hh' : I64 h') (s1 : -4000000000000 ≤ st') (s2 : st' ≤ 4000000000000) (hr : Hid (chk (nL l' h') (nH l' h') (nS l' h' st' dn') = 0)) :
    Calls Try.prog 117 #[.agg #[.int .i64 l, .int .i64 h, .int .i64 s], .func (.func 120) #[] #[.pointer (some ⟨b, o, none⟩)]] w fun e w' => e = .returned (.tuple #[.agg #[.int .i64 (nL l' h'), .int .i64 (nH l' h'), .int .i64 (nS l' h' st' dn')], .int .i64 0]) ∧ Below w.heap.size w w' := by
  obtain ⟨b1, b2, b3, b4, b5, b6, b7, b8⟩ := chk_bounds hk.out
  have q := quo_bd (h - l) (magA s) (by omega) b7
  have hz : ((h - l) / magA s + 1 == 0) = false := by simp; omega
  have hlt : b < w.heap.size := World.block_lt_of_cell? w _ hc
  have HC := Lib.hid hc
  clear hc q
  go_enter Try.func117, Try.ntmps117
  go_wp2_with fail
  refine (check_ok l h s _ ⟨by omega, by omega⟩ ⟨by omega, by omega⟩ ⟨by omega, by omega⟩ hk).mono ?_
  rintro e w1 ⟨rfl, hb1⟩
  obtain ⟨W1, z1, ⟨x0, x1, x2⟩, Y, F⟩ := res2 hb1
  have Y1 := Lib.hid Y
  have F1 := Lib.hid F
  clear hb1 Y F
  go_wp2_with fail
  refine (size_ok l h s _ hk hle).mono ?_
  rintro e w2 ⟨rfl, hb2⟩
  have W2 := hidTrans W1 hb2 (by omega)
  obtain ⟨z2, y0, y1, y2⟩ := keep3 hb2 (show w.heap.size < w1.heap.size by omega) x0 x1 x2
  have G2 := Lib.hid (keepF hb2 z1 Y1.out F1.out)
  have z2' := hb2.size
  clear hb2 W1 x0 x1 x2
  go_wp2_with fail
  refine (open_any _ _ _ _ (by omega) (by omega)).mono ?_
  rintro e w3 ⟨rfl, hb3⟩
  have W3 := hidTrans W2 hb3 (by omega)
  have G3 := Lib.hid (keepF hb3 (by omega) G2.out.1 G2.out.2)
  have z3 := hb3.size
  clear hb3 W2 y0 y1 y2
  go_wp2_with fail
  refine (hm _ ((W3.out.cell (p := ⟨b, o, none⟩) hlt).trans HC.out)).mono ?_
  rintro e w4 ⟨rfl, hb4⟩
  have W4 := hidTrans W3 hb4 (by omega)
  have G4 := Lib.hid (keepF hb4 (by omega) G3.out.1 G3.out.2)
  have z4 := hb4.size
  clear hb4 W3
  go_wp2_with fail
  refine (normal_any _ _ _ _ _ s1 s2).mono ?_
  rintro e w5 ⟨rfl, hb5⟩
  have W5 := hidTrans W4 hb5 (by omega)
  have G5 := Lib.hid (keepF hb5 (by omega) G4.out.1 G4.out.2)
  have z5 := hb5.size
  clear hb5 W4
  go_wp2_with fail
  refine (check_ok _ _ _ _ (nL_64 l' h' hl') (nH_64 l' h' hh') (nS_64 l' h' st' dn' s1 s2) hr).mono ?_
  rintro e w6 ⟨rfl, hb6⟩
  obtain ⟨V6, z6, y0, y1, y2⟩ := box3 hb6
  have W6 := hidTrans W5 V6.out (by omega)
  have G6 := keepF V6.out (by omega) G5.out.1 G5.out.2
  obtain ⟨⟨g0, g1, g2⟩, f0, f1, f2⟩ := G6
  clear hb6 W5 V6
  go_wp2
  refine bodyPost_ret (v := .tuple #[.agg #[.int .i64 (nL l' h'), .int .i64 (nH l' h'), .int .i64 (nS l' h' st' dn')], .int .i64 0]) (by simp [results, Try.results117, go_sem, *]) rfl ⟨rfl, ?_⟩
  repeat (first | exact W6.out | refine Below.setCell ?_ (by simp; try omega) _)
set_option maxHeartbeats 800000 in
theorem movedBad_Translate (b o : Nat) (vn : Value) (l h s l' h' st' : Int) (dn' : Bool) (w : World) (hk : Hid (chk l h s = 0)) (hle : l ≤ h) (hc : w.cell? ⟨b, o, none⟩ = some vn)
    (hm : Moves 120 ⟨b, o, none⟩ vn l h (magA s) (decide (s < 0)) l' h' st' dn') (hl' : I64 l') (hh' : I64 h') (s1 : -4000000000000 ≤ st') (s2 : st' ≤ 4000000000000) (hr : Hid (chk (nL l' h') (nH l' h') (nS l' h' st' dn') = 4)) :
    Calls Try.prog 117 #[.agg #[.int .i64 l, .int .i64 h, .int .i64 s], .func (.func 120) #[] #[.pointer (some ⟨b, o, none⟩)]] w fun e w' => e = .returned (.tuple #[.agg #[.int .i64 0, .int .i64 0, .int .i64 0], .int .i64 4]) ∧ Below w.heap.size w w' := by
  obtain ⟨b1, b2, b3, b4, b5, b6, b7, b8⟩ := chk_bounds hk.out
  have q := quo_bd (h - l) (magA s) (by omega) b7
  have hz : ((h - l) / magA s + 1 == 0) = false := by simp; omega
  have hlt : b < w.heap.size := World.block_lt_of_cell? w _ hc
  have HC := Lib.hid hc
  clear hc q
  go_enter Try.func117, Try.ntmps117
  go_wp2_with fail
  refine (check_ok l h s _ ⟨by omega, by omega⟩ ⟨by omega, by omega⟩ ⟨by omega, by omega⟩ hk).mono ?_
  rintro e w1 ⟨rfl, hb1⟩
  obtain ⟨W1, z1, ⟨x0, x1, x2⟩, Y, F⟩ := res2 hb1
  have Y1 := Lib.hid Y
  have F1 := Lib.hid F
  clear hb1 Y F
  go_wp2_with fail
  refine (size_ok l h s _ hk hle).mono ?_
  rintro e w2 ⟨rfl, hb2⟩
  have W2 := hidTrans W1 hb2 (by omega)
  obtain ⟨z2, y0, y1, y2⟩ := keep3 hb2 (show w.heap.size < w1.heap.size by omega) x0 x1 x2
  have G2 := Lib.hid (keepF hb2 z1 Y1.out F1.out)
  have z2' := hb2.size
  clear hb2 W1 x0 x1 x2
  go_wp2_with fail
  refine (open_any _ _ _ _ (by omega) (by omega)).mono ?_
  rintro e w3 ⟨rfl, hb3⟩
  have W3 := hidTrans W2 hb3 (by omega)
  have G3 := Lib.hid (keepF hb3 (by omega) G2.out.1 G2.out.2)
  have z3 := hb3.size
  clear hb3 W2 y0 y1 y2
  go_wp2_with fail
  refine (hm _ ((W3.out.cell (p := ⟨b, o, none⟩) hlt).trans HC.out)).mono ?_
  rintro e w4 ⟨rfl, hb4⟩
  have W4 := hidTrans W3 hb4 (by omega)
  have G4 := Lib.hid (keepF hb4 (by omega) G3.out.1 G3.out.2)
  have z4 := hb4.size
  clear hb4 W3
  go_wp2_with fail
  refine (normal_any _ _ _ _ _ s1 s2).mono ?_
  rintro e w5 ⟨rfl, hb5⟩
  have W5 := hidTrans W4 hb5 (by omega)
  have G5 := Lib.hid (keepF hb5 (by omega) G4.out.1 G4.out.2)
  have z5 := hb5.size
  clear hb5 W4
  go_wp2_with fail
  refine (check_four _ _ _ _ (nL_64 l' h' hl') (nH_64 l' h' hh') (nS_64 l' h' st' dn' s1 s2) hr).mono ?_
  rintro e w6 ⟨rfl, hb6⟩
  obtain ⟨V6, z6, y0, y1, y2⟩ := box3 hb6
  have W6 := hidTrans W5 V6.out (by omega)
  have G6 := keepF V6.out (by omega) G5.out.1 G5.out.2
  obtain ⟨⟨g0, g1, g2⟩, f0, f1, f2⟩ := G6
  clear hb6 W5 V6
  go_wp2
  refine bodyPost_ret (v := .tuple #[.agg #[.int .i64 0, .int .i64 0, .int .i64 0], .int .i64 4]) (by simp [results, Try.results117, go_sem, *]) rfl ⟨rfl, ?_⟩
  repeat (first | exact W6.out | refine Below.setCell ?_ (by simp; try omega) _)
set_option maxHeartbeats 800000 in
theorem moved_Expand (b o : Nat) (vn : Value) (l h s l' h' st' : Int) (dn' : Bool) (w : World) (hk : Hid (chk l h s = 0)) (hle : l ≤ h) (hc : w.cell? ⟨b, o, none⟩ = some vn)
    (hm : Moves 123 ⟨b, o, none⟩ vn l h (magA s) (decide (s < 0)) l' h' st' dn') (hl' : I64 l') (hh' : I64 h') (s1 : -4000000000000 ≤ st') (s2 : st' ≤ 4000000000000) (hr : Hid (chk (nL l' h') (nH l' h') (nS l' h' st' dn') = 0)) :
    Calls Try.prog 117 #[.agg #[.int .i64 l, .int .i64 h, .int .i64 s], .func (.func 123) #[] #[.pointer (some ⟨b, o, none⟩)]] w fun e w' => e = .returned (.tuple #[.agg #[.int .i64 (nL l' h'), .int .i64 (nH l' h'), .int .i64 (nS l' h' st' dn')], .int .i64 0]) ∧ Below w.heap.size w w' := by
  obtain ⟨b1, b2, b3, b4, b5, b6, b7, b8⟩ := chk_bounds hk.out
  have q := quo_bd (h - l) (magA s) (by omega) b7
  have hz : ((h - l) / magA s + 1 == 0) = false := by simp; omega
  have hlt : b < w.heap.size := World.block_lt_of_cell? w _ hc
  have HC := Lib.hid hc
  clear hc q
  go_enter Try.func117, Try.ntmps117
  go_wp2_with fail
  refine (check_ok l h s _ ⟨by omega, by omega⟩ ⟨by omega, by omega⟩ ⟨by omega, by omega⟩ hk).mono ?_
  rintro e w1 ⟨rfl, hb1⟩
  obtain ⟨W1, z1, ⟨x0, x1, x2⟩, Y, F⟩ := res2 hb1
  have Y1 := Lib.hid Y
  have F1 := Lib.hid F
  clear hb1 Y F
  go_wp2_with fail
  refine (size_ok l h s _ hk hle).mono ?_
  rintro e w2 ⟨rfl, hb2⟩
  have W2 := hidTrans W1 hb2 (by omega)
  obtain ⟨z2, y0, y1, y2⟩ := keep3 hb2 (show w.heap.size < w1.heap.size by omega) x0 x1 x2
  have G2 := Lib.hid (keepF hb2 z1 Y1.out F1.out)
  have z2' := hb2.size
  clear hb2 W1 x0 x1 x2
  go_wp2_with fail
  refine (open_any _ _ _ _ (by omega) (by omega)).mono ?_
  rintro e w3 ⟨rfl, hb3⟩
  have W3 := hidTrans W2 hb3 (by omega)
  have G3 := Lib.hid (keepF hb3 (by omega) G2.out.1 G2.out.2)
  have z3 := hb3.size
  clear hb3 W2 y0 y1 y2
  go_wp2_with fail
  refine (hm _ ((W3.out.cell (p := ⟨b, o, none⟩) hlt).trans HC.out)).mono ?_
  rintro e w4 ⟨rfl, hb4⟩
  have W4 := hidTrans W3 hb4 (by omega)
  have G4 := Lib.hid (keepF hb4 (by omega) G3.out.1 G3.out.2)
  have z4 := hb4.size
  clear hb4 W3
  go_wp2_with fail
  refine (normal_any _ _ _ _ _ s1 s2).mono ?_
  rintro e w5 ⟨rfl, hb5⟩
  have W5 := hidTrans W4 hb5 (by omega)
  have G5 := Lib.hid (keepF hb5 (by omega) G4.out.1 G4.out.2)
  have z5 := hb5.size
  clear hb5 W4
  go_wp2_with fail
  refine (check_ok _ _ _ _ (nL_64 l' h' hl') (nH_64 l' h' hh') (nS_64 l' h' st' dn' s1 s2) hr).mono ?_
  rintro e w6 ⟨rfl, hb6⟩
  obtain ⟨V6, z6, y0, y1, y2⟩ := box3 hb6
  have W6 := hidTrans W5 V6.out (by omega)
  have G6 := keepF V6.out (by omega) G5.out.1 G5.out.2
  obtain ⟨⟨g0, g1, g2⟩, f0, f1, f2⟩ := G6
  clear hb6 W5 V6
  go_wp2
  refine bodyPost_ret (v := .tuple #[.agg #[.int .i64 (nL l' h'), .int .i64 (nH l' h'), .int .i64 (nS l' h' st' dn')], .int .i64 0]) (by simp [results, Try.results117, go_sem, *]) rfl ⟨rfl, ?_⟩
  repeat (first | exact W6.out | refine Below.setCell ?_ (by simp; try omega) _)
set_option maxHeartbeats 800000 in
theorem movedBad_Expand (b o : Nat) (vn : Value) (l h s l' h' st' : Int) (dn' : Bool) (w : World) (hk : Hid (chk l h s = 0)) (hle : l ≤ h) (hc : w.cell? ⟨b, o, none⟩ = some vn)
    (hm : Moves 123 ⟨b, o, none⟩ vn l h (magA s) (decide (s < 0)) l' h' st' dn') (hl' : I64 l') (hh' : I64 h') (s1 : -4000000000000 ≤ st') (s2 : st' ≤ 4000000000000) (hr : Hid (chk (nL l' h') (nH l' h') (nS l' h' st' dn') = 4)) :
    Calls Try.prog 117 #[.agg #[.int .i64 l, .int .i64 h, .int .i64 s], .func (.func 123) #[] #[.pointer (some ⟨b, o, none⟩)]] w fun e w' => e = .returned (.tuple #[.agg #[.int .i64 0, .int .i64 0, .int .i64 0], .int .i64 4]) ∧ Below w.heap.size w w' := by
  obtain ⟨b1, b2, b3, b4, b5, b6, b7, b8⟩ := chk_bounds hk.out
  have q := quo_bd (h - l) (magA s) (by omega) b7
  have hz : ((h - l) / magA s + 1 == 0) = false := by simp; omega
  have hlt : b < w.heap.size := World.block_lt_of_cell? w _ hc
  have HC := Lib.hid hc
  clear hc q
  go_enter Try.func117, Try.ntmps117
  go_wp2_with fail
  refine (check_ok l h s _ ⟨by omega, by omega⟩ ⟨by omega, by omega⟩ ⟨by omega, by omega⟩ hk).mono ?_
  rintro e w1 ⟨rfl, hb1⟩
  obtain ⟨W1, z1, ⟨x0, x1, x2⟩, Y, F⟩ := res2 hb1
  have Y1 := Lib.hid Y
  have F1 := Lib.hid F
  clear hb1 Y F
  go_wp2_with fail
  refine (size_ok l h s _ hk hle).mono ?_
  rintro e w2 ⟨rfl, hb2⟩
  have W2 := hidTrans W1 hb2 (by omega)
  obtain ⟨z2, y0, y1, y2⟩ := keep3 hb2 (show w.heap.size < w1.heap.size by omega) x0 x1 x2
  have G2 := Lib.hid (keepF hb2 z1 Y1.out F1.out)
  have z2' := hb2.size
  clear hb2 W1 x0 x1 x2
  go_wp2_with fail
  refine (open_any _ _ _ _ (by omega) (by omega)).mono ?_
  rintro e w3 ⟨rfl, hb3⟩
  have W3 := hidTrans W2 hb3 (by omega)
  have G3 := Lib.hid (keepF hb3 (by omega) G2.out.1 G2.out.2)
  have z3 := hb3.size
  clear hb3 W2 y0 y1 y2
  go_wp2_with fail
  refine (hm _ ((W3.out.cell (p := ⟨b, o, none⟩) hlt).trans HC.out)).mono ?_
  rintro e w4 ⟨rfl, hb4⟩
  have W4 := hidTrans W3 hb4 (by omega)
  have G4 := Lib.hid (keepF hb4 (by omega) G3.out.1 G3.out.2)
  have z4 := hb4.size
  clear hb4 W3
  go_wp2_with fail
  refine (normal_any _ _ _ _ _ s1 s2).mono ?_
  rintro e w5 ⟨rfl, hb5⟩
  have W5 := hidTrans W4 hb5 (by omega)
  have G5 := Lib.hid (keepF hb5 (by omega) G4.out.1 G4.out.2)
  have z5 := hb5.size
  clear hb5 W4
  go_wp2_with fail
  refine (check_four _ _ _ _ (nL_64 l' h' hl') (nH_64 l' h' hh') (nS_64 l' h' st' dn' s1 s2) hr).mono ?_
  rintro e w6 ⟨rfl, hb6⟩
  obtain ⟨V6, z6, y0, y1, y2⟩ := box3 hb6
  have W6 := hidTrans W5 V6.out (by omega)
  have G6 := keepF V6.out (by omega) G5.out.1 G5.out.2
  obtain ⟨⟨g0, g1, g2⟩, f0, f1, f2⟩ := G6
  clear hb6 W5 V6
  go_wp2
  refine bodyPost_ret (v := .tuple #[.agg #[.int .i64 0, .int .i64 0, .int .i64 0], .int .i64 4]) (by simp [results, Try.results117, go_sem, *]) rfl ⟨rfl, ?_⟩
  repeat (first | exact W6.out | refine Below.setCell ?_ (by simp; try omega) _)
end Go.Proofs.Ytabgphlpdoockaa
namespace Go.Proofs.Ytabgphlpdoockaa
open Go.RowKit
set_option maxHeartbeats 800000 in
theorem moved_Interior (b o : Nat) (vn : Value) (l h s l' h' st' : Int) (dn' : Bool) (w : World) (hk : Hid (chk l h s = 0)) (hle : l ≤ h) (hc : w.cell? ⟨b, o, none⟩ = some vn)
    (hm : Moves 124 ⟨b, o, none⟩ vn l h (magA s) (decide (s < 0)) l' h' st' dn') (hl' : I64 l') (hh' : I64 h') (s1 : -4000000000000 ≤ st') (s2 : st' ≤ 4000000000000) (hr : Hid (chk (nL l' h') (nH l' h') (nS l' h' st' dn') = 0)) :
    Calls Try.prog 117 #[.agg #[.int .i64 l, .int .i64 h, .int .i64 s], .func (.func 124) #[] #[.pointer (some ⟨b, o, none⟩)]] w fun e w' => e = .returned (.tuple #[.agg #[.int .i64 (nL l' h'), .int .i64 (nH l' h'), .int .i64 (nS l' h' st' dn')], .int .i64 0]) ∧ Below w.heap.size w w' := by
  obtain ⟨b1, b2, b3, b4, b5, b6, b7, b8⟩ := chk_bounds hk.out
  have q := quo_bd (h - l) (magA s) (by omega) b7
  have hz : ((h - l) / magA s + 1 == 0) = false := by simp; omega
  have hlt : b < w.heap.size := World.block_lt_of_cell? w _ hc
  have HC := Lib.hid hc
  clear hc q
  go_enter Try.func117, Try.ntmps117
  go_wp2_with fail
  refine (check_ok l h s _ ⟨by omega, by omega⟩ ⟨by omega, by omega⟩ ⟨by omega, by omega⟩ hk).mono ?_
  rintro e w1 ⟨rfl, hb1⟩
  obtain ⟨W1, z1, ⟨x0, x1, x2⟩, Y, F⟩ := res2 hb1
  have Y1 := Lib.hid Y
  have F1 := Lib.hid F
  clear hb1 Y F
  go_wp2_with fail
  refine (size_ok l h s _ hk hle).mono ?_
  rintro e w2 ⟨rfl, hb2⟩
  have W2 := hidTrans W1 hb2 (by omega)
  obtain ⟨z2, y0, y1, y2⟩ := keep3 hb2 (show w.heap.size < w1.heap.size by omega) x0 x1 x2
  have G2 := Lib.hid (keepF hb2 z1 Y1.out F1.out)
  have z2' := hb2.size
  clear hb2 W1 x0 x1 x2
  go_wp2_with fail
  refine (open_any _ _ _ _ (by omega) (by omega)).mono ?_
  rintro e w3 ⟨rfl, hb3⟩
  have W3 := hidTrans W2 hb3 (by omega)
  have G3 := Lib.hid (keepF hb3 (by omega) G2.out.1 G2.out.2)
  have z3 := hb3.size
  clear hb3 W2 y0 y1 y2
  go_wp2_with fail
  refine (hm _ ((W3.out.cell (p := ⟨b, o, none⟩) hlt).trans HC.out)).mono ?_
  rintro e w4 ⟨rfl, hb4⟩
  have W4 := hidTrans W3 hb4 (by omega)
  have G4 := Lib.hid (keepF hb4 (by omega) G3.out.1 G3.out.2)
  have z4 := hb4.size
  clear hb4 W3
  go_wp2_with fail
  refine (normal_any _ _ _ _ _ s1 s2).mono ?_
  rintro e w5 ⟨rfl, hb5⟩
  have W5 := hidTrans W4 hb5 (by omega)
  have G5 := Lib.hid (keepF hb5 (by omega) G4.out.1 G4.out.2)
  have z5 := hb5.size
  clear hb5 W4
  go_wp2_with fail
  refine (check_ok _ _ _ _ (nL_64 l' h' hl') (nH_64 l' h' hh') (nS_64 l' h' st' dn' s1 s2) hr).mono ?_
  rintro e w6 ⟨rfl, hb6⟩
  obtain ⟨V6, z6, y0, y1, y2⟩ := box3 hb6
  have W6 := hidTrans W5 V6.out (by omega)
  have G6 := keepF V6.out (by omega) G5.out.1 G5.out.2
  obtain ⟨⟨g0, g1, g2⟩, f0, f1, f2⟩ := G6
  clear hb6 W5 V6
  go_wp2
  refine bodyPost_ret (v := .tuple #[.agg #[.int .i64 (nL l' h'), .int .i64 (nH l' h'), .int .i64 (nS l' h' st' dn')], .int .i64 0]) (by simp [results, Try.results117, go_sem, *]) rfl ⟨rfl, ?_⟩
  repeat (first | exact W6.out | refine Below.setCell ?_ (by simp; try omega) _)
set_option maxHeartbeats 800000 in
theorem moved_Exterior (b o : Nat) (vn : Value) (l h s l' h' st' : Int) (dn' : Bool) (w : World) (hk : Hid (chk l h s = 0)) (hle : l ≤ h) (hc : w.cell? ⟨b, o, none⟩ = some vn)
    (hm : Moves 125 ⟨b, o, none⟩ vn l h (magA s) (decide (s < 0)) l' h' st' dn') (hl' : I64 l') (hh' : I64 h') (s1 : -4000000000000 ≤ st') (s2 : st' ≤ 4000000000000) (hr : Hid (chk (nL l' h') (nH l' h') (nS l' h' st' dn') = 0)) :
    Calls Try.prog 117 #[.agg #[.int .i64 l, .int .i64 h, .int .i64 s], .func (.func 125) #[] #[.pointer (some ⟨b, o, none⟩)]] w fun e w' => e = .returned (.tuple #[.agg #[.int .i64 (nL l' h'), .int .i64 (nH l' h'), .int .i64 (nS l' h' st' dn')], .int .i64 0]) ∧ Below w.heap.size w w' := by
  obtain ⟨b1, b2, b3, b4, b5, b6, b7, b8⟩ := chk_bounds hk.out
  have q := quo_bd (h - l) (magA s) (by omega) b7
  have hz : ((h - l) / magA s + 1 == 0) = false := by simp; omega
  have hlt : b < w.heap.size := World.block_lt_of_cell? w _ hc
  have HC := Lib.hid hc
  clear hc q
  go_enter Try.func117, Try.ntmps117
  go_wp2_with fail
  refine (check_ok l h s _ ⟨by omega, by omega⟩ ⟨by omega, by omega⟩ ⟨by omega, by omega⟩ hk).mono ?_
  rintro e w1 ⟨rfl, hb1⟩
  obtain ⟨W1, z1, ⟨x0, x1, x2⟩, Y, F⟩ := res2 hb1
  have Y1 := Lib.hid Y
  have F1 := Lib.hid F
  clear hb1 Y F
  go_wp2_with fail
  refine (size_ok l h s _ hk hle).mono ?_
  rintro e w2 ⟨rfl, hb2⟩
  have W2 := hidTrans W1 hb2 (by omega)
  obtain ⟨z2, y0, y1, y2⟩ := keep3 hb2 (show w.heap.size < w1.heap.size by omega) x0 x1 x2
  have G2 := Lib.hid (keepF hb2 z1 Y1.out F1.out)
  have z2' := hb2.size
  clear hb2 W1 x0 x1 x2
  go_wp2_with fail
  refine (open_any _ _ _ _ (by omega) (by omega)).mono ?_
  rintro e w3 ⟨rfl, hb3⟩
  have W3 := hidTrans W2 hb3 (by omega)
  have G3 := Lib.hid (keepF hb3 (by omega) G2.out.1 G2.out.2)
  have z3 := hb3.size
  clear hb3 W2 y0 y1 y2
  go_wp2_with fail
  refine (hm _ ((W3.out.cell (p := ⟨b, o, none⟩) hlt).trans HC.out)).mono ?_
  rintro e w4 ⟨rfl, hb4⟩
  have W4 := hidTrans W3 hb4 (by omega)
  have G4 := Lib.hid (keepF hb4 (by omega) G3.out.1 G3.out.2)
  have z4 := hb4.size
  clear hb4 W3
  go_wp2_with fail
  refine (normal_any _ _ _ _ _ s1 s2).mono ?_
  rintro e w5 ⟨rfl, hb5⟩
  have W5 := hidTrans W4 hb5 (by omega)
  have G5 := Lib.hid (keepF hb5 (by omega) G4.out.1 G4.out.2)
  have z5 := hb5.size
  clear hb5 W4
  go_wp2_with fail
  refine (check_ok _ _ _ _ (nL_64 l' h' hl') (nH_64 l' h' hh') (nS_64 l' h' st' dn' s1 s2) hr).mono ?_
  rintro e w6 ⟨rfl, hb6⟩
  obtain ⟨V6, z6, y0, y1, y2⟩ := box3 hb6
  have W6 := hidTrans W5 V6.out (by omega)
  have G6 := keepF V6.out (by omega) G5.out.1 G5.out.2
  obtain ⟨⟨g0, g1, g2⟩, f0, f1, f2⟩ := G6
  clear hb6 W5 V6
  go_wp2
  refine bodyPost_ret (v := .tuple #[.agg #[.int .i64 (nL l' h'), .int .i64 (nH l' h'), .int .i64 (nS l' h' st' dn')], .int .i64 0]) (by simp [results, Try.results117, go_sem, *]) rfl ⟨rfl, ?_⟩
  repeat (first | exact W6.out | refine Below.setCell ?_ (by simp; try omega) _)
set_option maxHeartbeats 800000 in
theorem movedBad_Exterior (b o : Nat) (vn : Value) (l h s l' h' st' : Int) (dn' : Bool) (w : World) (hk : Hid (chk l h s = 0)) (hle : l ≤ h) (hc : w.cell? ⟨b, o, none⟩ = some vn)
    (hm : Moves 125 ⟨b, o, none⟩ vn l h (magA s) (decide (s < 0)) l' h' st' dn') (hl' : I64 l') (hh' : I64 h') (s1 : -4000000000000 ≤ st') (s2 : st' ≤ 4000000000000) (hr : Hid (chk (nL l' h') (nH l' h') (nS l' h' st' dn') = 4)) :
    Calls Try.prog 117 #[.agg #[.int .i64 l, .int .i64 h, .int .i64 s], .func (.func 125) #[] #[.pointer (some ⟨b, o, none⟩)]] w fun e w' => e = .returned (.tuple #[.agg #[.int .i64 0, .int .i64 0, .int .i64 0], .int .i64 4]) ∧ Below w.heap.size w w' := by
  obtain ⟨b1, b2, b3, b4, b5, b6, b7, b8⟩ := chk_bounds hk.out
  have q := quo_bd (h - l) (magA s) (by omega) b7
  have hz : ((h - l) / magA s + 1 == 0) = false := by simp; omega
  have hlt : b < w.heap.size := World.block_lt_of_cell? w _ hc
  have HC := Lib.hid hc
  clear hc q
  go_enter Try.func117, Try.ntmps117
  go_wp2_with fail
  refine (check_ok l h s _ ⟨by omega, by omega⟩ ⟨by omega, by omega⟩ ⟨by omega, by omega⟩ hk).mono ?_
  rintro e w1 ⟨rfl, hb1⟩
  obtain ⟨W1, z1, ⟨x0, x1, x2⟩, Y, F⟩ := res2 hb1
  have Y1 := Lib.hid Y
  have F1 := Lib.hid F
  clear hb1 Y F
  go_wp2_with fail
  refine (size_ok l h s _ hk hle).mono ?_
  rintro e w2 ⟨rfl, hb2⟩
  have W2 := hidTrans W1 hb2 (by omega)
  obtain ⟨z2, y0, y1, y2⟩ := keep3 hb2 (show w.heap.size < w1.heap.size by omega) x0 x1 x2
  have G2 := Lib.hid (keepF hb2 z1 Y1.out F1.out)
  have z2' := hb2.size
  clear hb2 W1 x0 x1 x2
  go_wp2_with fail
  refine (open_any _ _ _ _ (by omega) (by omega)).mono ?_
  rintro e w3 ⟨rfl, hb3⟩
  have W3 := hidTrans W2 hb3 (by omega)
  have G3 := Lib.hid (keepF hb3 (by omega) G2.out.1 G2.out.2)
  have z3 := hb3.size
  clear hb3 W2 y0 y1 y2
  go_wp2_with fail
  refine (hm _ ((W3.out.cell (p := ⟨b, o, none⟩) hlt).trans HC.out)).mono ?_
  rintro e w4 ⟨rfl, hb4⟩
  have W4 := hidTrans W3 hb4 (by omega)
  have G4 := Lib.hid (keepF hb4 (by omega) G3.out.1 G3.out.2)
  have z4 := hb4.size
  clear hb4 W3
  go_wp2_with fail
  refine (normal_any _ _ _ _ _ s1 s2).mono ?_
  rintro e w5 ⟨rfl, hb5⟩
  have W5 := hidTrans W4 hb5 (by omega)
  have G5 := Lib.hid (keepF hb5 (by omega) G4.out.1 G4.out.2)
  have z5 := hb5.size
  clear hb5 W4
  go_wp2_with fail
  refine (check_four _ _ _ _ (nL_64 l' h' hl') (nH_64 l' h' hh') (nS_64 l' h' st' dn' s1 s2) hr).mono ?_
  rintro e w6 ⟨rfl, hb6⟩
  obtain ⟨V6, z6, y0, y1, y2⟩ := box3 hb6
  have W6 := hidTrans W5 V6.out (by omega)
  have G6 := keepF V6.out (by omega) G5.out.1 G5.out.2
  obtain ⟨⟨g0, g1, g2⟩, f0, f1, f2⟩ := G6
  clear hb6 W5 V6
  go_wp2
  refine bodyPost_ret (v := .tuple #[.agg #[.int .i64 0, .int .i64 0, .int .i64 0], .int .i64 4]) (by simp [results, Try.results117, go_sem, *]) rfl ⟨rfl, ?_⟩
  repeat (first | exact W6.out | refine Below.setCell ?_ (by simp; try omega) _)
end Go.Proofs.Ytabgphlpdoockaa
