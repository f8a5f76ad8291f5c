/-
  Part 11: IrZ.
-/
import Derived.Test.YtcpeailodgoilaaKy9
import Derived.BigQuiet
import Derived.Deep.CutBlock
import Derived.Deep.DeepCutAuto
import Derived.Deep.DrawnRows
import Derived.Deep.LoopGhost
import Derived.Deep.QuietTactic
import Derived.Deep.RegionHeld3
import Derived.Deep.RegionWith
import Derived.Laws.Cover3
import Derived.Lib.Hide
import Derived.OwnWalk
import Derived.WalkKit
import Derived.WalkLawsBesides
import Derived.WalkSpells
namespace Go.Proofs.Ytcpeailodgoilaa
open Go.RowKit
theorem at3_new (x : R3) (t : TypeId) (w : World) : At3 (w.alloc (.cells #[.int .i64 x.1, .int .i64 x.2.1, .int .i64 x.2.2] t)) w.heap.size 0 [x] := by
  intro j z hz
  obtain rfl : j = 0 := by
    by_cases h : j = 0
    · exact h
    · rw [List.getElem?_eq_none (by simp; omega)] at hz; cases hz
  cases hz
  refine ⟨?_, ?_, ?_⟩ <;> simp [go_sem]
theorem at3_keep {W W' : World} {b o : Nat} {L : List R3} (h : b < W.heap.size ∧ At3 W b o L) (hb : Below W.heap.size W W') : b < W'.heap.size ∧ At3 W' b o L :=
  ⟨Nat.lt_of_lt_of_le h.1 hb.size, h.2.under hb h.1⟩
set_option maxRecDepth 100000 in
set_option maxHeartbeats 6400000 in
theorem shape_any (b o cap : Nat) (x y : R3) (k s h : Int) (w : World) (hb : b < w.heap.size) (hc : Hid (At3 w b o [x, y])) (hL : Ok3 [x, y]) :
    Calls Try.prog 236 #[.agg #[.slice (some ⟨b, o, none⟩) 2 cap, .int .i64 k, .int .i64 s, .int .i64 h]] w fun e w' => e = .returned (.tuple #[.int .i64 (dsiz [x] k s h), .int .i64 (dsiz [y] k s h)]) ∧ Below w.heap.size w w' := by
  have HC := hc
  have Ox : Hid (Ok3 [x]) := Lib.hid (fun z hz => hL z (by simp at hz; simp [hz]))
  have Oy : Hid (Ok3 [y]) := Lib.hid (fun z hz => hL z (by simp at hz; simp [hz]))
  have R1 := resD (w := w) (t := 62) (a := .slice (some ⟨b, o, none⟩) 2 cap) (b := .int .i64 k) (c := .int .i64 s) (d := .int .i64 h) (Below.refl _ _)
  have D0 : Hid (DSt w (.slice (some ⟨b, o, none⟩) 2 cap) k s h (w.alloc (.cells #[.slice (some ⟨b, o, none⟩) 2 cap, .int .i64 k, .int .i64 s, .int .i64 h] 62))) := Lib.hid ⟨R1.1, R1.2⟩
  clear R1 hL hc
  go_enter Try.func236, Try.ntmps236
  go_upto_region 1 with fail
  generalize w.alloc (.cells #[.slice (some ⟨b, o, none⟩) 2 cap, .int .i64 k, .int .i64 s, .int .i64 h] 62) = u0 at *
  refine wp_region_held_drew (S := (fun w' => DSt w (.slice (some ⟨b, o, none⟩) 2 cap) k s h w')) (by kernel_rfl) (D0.out.keep (to_drew (Below.refl _ _))) (fun hHeld => ?_)
  clear D0
  generalize u0.drew = v0 at *
  refine wpAnyH_take (i := 0) (oi := { dst := some 4, op := Op.load 62 (Operand.tmp 1), type := 62, pos := "rows.go:26", after := #[], guard := none }) (v := ?_) rfl (by kernel_rfl) (by kernel_rfl) (by kernel_rfl) (fun _ _ _ h => h) (Or.inl ⟨by rfl, ?_⟩) (by assumption) ?_
  rotate_left
  · (intro wq hSw; (try dsimp only at hSw); have q0 := hSw.d.c0; have q1 := hSw.d.c1; have q2 := hSw.d.c2; have q3 := hSw.d.c3; have A := HC.out.under hSw.below hb; obtain ⟨x0, x1, x2⟩ := A 0 x rfl; obtain ⟨y0, y1, y2⟩ := A 1 y rfl; simp only [Nat.zero_mul, Nat.add_zero, Nat.one_mul] at x0 x1 x2 y0 y1 y2; have y1b : wq.cell? ⟨b, o + 4, none⟩ = some (.int .i64 y.2.1) := y1; have y2b : wq.cell? ⟨b, o + 5, none⟩ = some (.int .i64 y.2.2) := y2; clear A; clear hSw; go_simp; first | done | with_reducible rfl)
  try simp only [Act.put, List.setIfInBounds_toArray, List.set_cons_zero, List.set_cons_succ]
  refine wpAnyH_take (i := 1) (oi := { dst := some 5, op := Op.fieldAddr 62 (Operand.tmp 1) 0, type := 0, pos := "rows.go:26", after := #[], guard := none }) (v := ?_) rfl (by kernel_rfl) (by kernel_rfl) (by kernel_rfl) (fun _ _ _ h => h) (Or.inl ⟨by rfl, ?_⟩) (by assumption) ?_
  rotate_left
  · (intro wq hSw; (try dsimp only at hSw); have q0 := hSw.d.c0; have q1 := hSw.d.c1; have q2 := hSw.d.c2; have q3 := hSw.d.c3; have A := HC.out.under hSw.below hb; obtain ⟨x0, x1, x2⟩ := A 0 x rfl; obtain ⟨y0, y1, y2⟩ := A 1 y rfl; simp only [Nat.zero_mul, Nat.add_zero, Nat.one_mul] at x0 x1 x2 y0 y1 y2; have y1b : wq.cell? ⟨b, o + 4, none⟩ = some (.int .i64 y.2.1) := y1; have y2b : wq.cell? ⟨b, o + 5, none⟩ = some (.int .i64 y.2.2) := y2; clear A; clear hSw; go_simp; first | done | with_reducible rfl)
  try simp only [Act.put, List.setIfInBounds_toArray, List.set_cons_zero, List.set_cons_succ]
  refine wpAnyH_take (i := 2) (oi := { dst := some 6, op := Op.load 40 (Operand.tmp 5), type := 40, pos := "rows.go:26", after := #[{ on := 1, ground := Ground.data }], guard := none }) (v := ?_) rfl (by kernel_rfl) (by kernel_rfl) (by kernel_rfl) (fun _ _ _ h => h) (Or.inl ⟨by rfl, ?_⟩) (by assumption) ?_
  rotate_left
  · (intro wq hSw; (try dsimp only at hSw); have q0 := hSw.d.c0; have q1 := hSw.d.c1; have q2 := hSw.d.c2; have q3 := hSw.d.c3; have A := HC.out.under hSw.below hb; obtain ⟨x0, x1, x2⟩ := A 0 x rfl; obtain ⟨y0, y1, y2⟩ := A 1 y rfl; simp only [Nat.zero_mul, Nat.add_zero, Nat.one_mul] at x0 x1 x2 y0 y1 y2; have y1b : wq.cell? ⟨b, o + 4, none⟩ = some (.int .i64 y.2.1) := y1; have y2b : wq.cell? ⟨b, o + 5, none⟩ = some (.int .i64 y.2.2) := y2; clear A; clear hSw; go_simp; first | done | with_reducible rfl)
  try simp only [Act.put, List.setIfInBounds_toArray, List.set_cons_zero, List.set_cons_succ]
  refine wpAnyH_take (i := 3) (oi := { dst := some 7, op := Op.indexAddr 40 (Operand.tmp 6) (Operand.const (Value.int IntKind.i64 0)), type := 0, pos := "rows.go:26", after := #[{ on := 2, ground := Ground.data }], guard := none }) (v := ?_) rfl (by kernel_rfl) (by kernel_rfl) (by kernel_rfl) (fun _ _ _ h => h) (Or.inl ⟨by rfl, ?_⟩) (by assumption) ?_
  rotate_left
  · (intro wq hSw; (try dsimp only at hSw); have q0 := hSw.d.c0; have q1 := hSw.d.c1; have q2 := hSw.d.c2; have q3 := hSw.d.c3; have A := HC.out.under hSw.below hb; obtain ⟨x0, x1, x2⟩ := A 0 x rfl; obtain ⟨y0, y1, y2⟩ := A 1 y rfl; simp only [Nat.zero_mul, Nat.add_zero, Nat.one_mul] at x0 x1 x2 y0 y1 y2; have y1b : wq.cell? ⟨b, o + 4, none⟩ = some (.int .i64 y.2.1) := y1; have y2b : wq.cell? ⟨b, o + 5, none⟩ = some (.int .i64 y.2.2) := y2; clear A; clear hSw; go_simp; first | done | with_reducible rfl)
  try simp only [Act.put, List.setIfInBounds_toArray, List.set_cons_zero, List.set_cons_succ]
  refine wpAnyH_take (i := 4) (oi := { dst := some 8, op := Op.load 23 (Operand.tmp 7), type := 23, pos := "rows.go:26", after := #[{ on := 3, ground := Ground.data }], guard := none }) (v := ?_) rfl (by kernel_rfl) (by kernel_rfl) (by kernel_rfl) (fun _ _ _ h => h) (Or.inl ⟨by rfl, ?_⟩) (by assumption) ?_
  rotate_left
  · (intro wq hSw; (try dsimp only at hSw); have q0 := hSw.d.c0; have q1 := hSw.d.c1; have q2 := hSw.d.c2; have q3 := hSw.d.c3; have A := HC.out.under hSw.below hb; obtain ⟨x0, x1, x2⟩ := A 0 x rfl; obtain ⟨y0, y1, y2⟩ := A 1 y rfl; simp only [Nat.zero_mul, Nat.add_zero, Nat.one_mul] at x0 x1 x2 y0 y1 y2; have y1b : wq.cell? ⟨b, o + 4, none⟩ = some (.int .i64 y.2.1) := y1; have y2b : wq.cell? ⟨b, o + 5, none⟩ = some (.int .i64 y.2.2) := y2; clear A; clear hSw; go_simp; first | done | with_reducible rfl)
  try simp only [Act.put, List.setIfInBounds_toArray, List.set_cons_zero, List.set_cons_succ]
  refine wpAnyH_take (i := 8) (oi := { dst := some 12, op := Op.load 62 (Operand.tmp 1), type := 62, pos := "rows.go:26", after := #[], guard := none }) (v := ?_) rfl (by kernel_rfl) (by kernel_rfl) (by kernel_rfl) (fun _ _ _ h => h) (Or.inl ⟨by rfl, ?_⟩) (by assumption) ?_
  rotate_left
  · (intro wq hSw; (try dsimp only at hSw); have q0 := hSw.d.c0; have q1 := hSw.d.c1; have q2 := hSw.d.c2; have q3 := hSw.d.c3; have A := HC.out.under hSw.below hb; obtain ⟨x0, x1, x2⟩ := A 0 x rfl; obtain ⟨y0, y1, y2⟩ := A 1 y rfl; simp only [Nat.zero_mul, Nat.add_zero, Nat.one_mul] at x0 x1 x2 y0 y1 y2; have y1b : wq.cell? ⟨b, o + 4, none⟩ = some (.int .i64 y.2.1) := y1; have y2b : wq.cell? ⟨b, o + 5, none⟩ = some (.int .i64 y.2.2) := y2; clear A; clear hSw; go_simp; first | done | with_reducible rfl)
  try simp only [Act.put, List.setIfInBounds_toArray, List.set_cons_zero, List.set_cons_succ]
  refine wpAnyH_take (i := 9) (oi := { dst := some 13, op := Op.fieldAddr 62 (Operand.tmp 1) 0, type := 0, pos := "rows.go:26", after := #[], guard := none }) (v := ?_) rfl (by kernel_rfl) (by kernel_rfl) (by kernel_rfl) (fun _ _ _ h => h) (Or.inl ⟨by rfl, ?_⟩) (by assumption) ?_
  rotate_left
  · (intro wq hSw; (try dsimp only at hSw); have q0 := hSw.d.c0; have q1 := hSw.d.c1; have q2 := hSw.d.c2; have q3 := hSw.d.c3; have A := HC.out.under hSw.below hb; obtain ⟨x0, x1, x2⟩ := A 0 x rfl; obtain ⟨y0, y1, y2⟩ := A 1 y rfl; simp only [Nat.zero_mul, Nat.add_zero, Nat.one_mul] at x0 x1 x2 y0 y1 y2; have y1b : wq.cell? ⟨b, o + 4, none⟩ = some (.int .i64 y.2.1) := y1; have y2b : wq.cell? ⟨b, o + 5, none⟩ = some (.int .i64 y.2.2) := y2; clear A; clear hSw; go_simp; first | done | with_reducible rfl)
  try simp only [Act.put, List.setIfInBounds_toArray, List.set_cons_zero, List.set_cons_succ]
  refine wpAnyH_take (i := 10) (oi := { dst := some 14, op := Op.load 40 (Operand.tmp 13), type := 40, pos := "rows.go:26", after := #[{ on := 9, ground := Ground.data }], guard := none }) (v := ?_) rfl (by kernel_rfl) (by kernel_rfl) (by kernel_rfl) (fun _ _ _ h => h) (Or.inl ⟨by rfl, ?_⟩) (by assumption) ?_
  rotate_left
  · (intro wq hSw; (try dsimp only at hSw); have q0 := hSw.d.c0; have q1 := hSw.d.c1; have q2 := hSw.d.c2; have q3 := hSw.d.c3; have A := HC.out.under hSw.below hb; obtain ⟨x0, x1, x2⟩ := A 0 x rfl; obtain ⟨y0, y1, y2⟩ := A 1 y rfl; simp only [Nat.zero_mul, Nat.add_zero, Nat.one_mul] at x0 x1 x2 y0 y1 y2; have y1b : wq.cell? ⟨b, o + 4, none⟩ = some (.int .i64 y.2.1) := y1; have y2b : wq.cell? ⟨b, o + 5, none⟩ = some (.int .i64 y.2.2) := y2; clear A; clear hSw; go_simp; first | done | with_reducible rfl)
  try simp only [Act.put, List.setIfInBounds_toArray, List.set_cons_zero, List.set_cons_succ]
  refine wpAnyH_take (i := 11) (oi := { dst := some 15, op := Op.indexAddr 40 (Operand.tmp 14) (Operand.const (Value.int IntKind.i64 1)), type := 0, pos := "rows.go:26", after := #[{ on := 10, ground := Ground.data }], guard := none }) (v := ?_) rfl (by kernel_rfl) (by kernel_rfl) (by kernel_rfl) (fun _ _ _ h => h) (Or.inl ⟨by rfl, ?_⟩) (by assumption) ?_
  rotate_left
  · (intro wq hSw; (try dsimp only at hSw); have q0 := hSw.d.c0; have q1 := hSw.d.c1; have q2 := hSw.d.c2; have q3 := hSw.d.c3; have A := HC.out.under hSw.below hb; obtain ⟨x0, x1, x2⟩ := A 0 x rfl; obtain ⟨y0, y1, y2⟩ := A 1 y rfl; simp only [Nat.zero_mul, Nat.add_zero, Nat.one_mul] at x0 x1 x2 y0 y1 y2; have y1b : wq.cell? ⟨b, o + 4, none⟩ = some (.int .i64 y.2.1) := y1; have y2b : wq.cell? ⟨b, o + 5, none⟩ = some (.int .i64 y.2.2) := y2; clear A; clear hSw; go_simp; first | done | with_reducible rfl)
  try simp only [Act.put, List.setIfInBounds_toArray, List.set_cons_zero, List.set_cons_succ]
  refine wpAnyH_take (i := 12) (oi := { dst := some 16, op := Op.load 23 (Operand.tmp 15), type := 23, pos := "rows.go:26", after := #[{ on := 11, ground := Ground.data }], guard := none }) (v := ?_) rfl (by kernel_rfl) (by kernel_rfl) (by kernel_rfl) (fun _ _ _ h => h) (Or.inl ⟨by rfl, ?_⟩) (by assumption) ?_
  rotate_left
  · (intro wq hSw; (try dsimp only at hSw); have q0 := hSw.d.c0; have q1 := hSw.d.c1; have q2 := hSw.d.c2; have q3 := hSw.d.c3; have A := HC.out.under hSw.below hb; obtain ⟨x0, x1, x2⟩ := A 0 x rfl; obtain ⟨y0, y1, y2⟩ := A 1 y rfl; simp only [Nat.zero_mul, Nat.add_zero, Nat.one_mul] at x0 x1 x2 y0 y1 y2; have y1b : wq.cell? ⟨b, o + 4, none⟩ = some (.int .i64 y.2.1) := y1; have y2b : wq.cell? ⟨b, o + 5, none⟩ = some (.int .i64 y.2.2) := y2; clear A; clear hSw; go_simp; first | done | with_reducible rfl)
  try simp only [Act.put, List.setIfInBounds_toArray, List.set_cons_zero, List.set_cons_succ]
  refine wpAnyH_ready (rs := [5, 13]) (by kernel_rfl) (by simp) ?_
  refine AllReadyH.cons (o := { dst := some 9, op := Op.buildSlice 40 1 #[(0, Operand.tmp 8)], type := 40, pos := "rows.go:26", after := #[{ on := 4, ground := Ground.data }], guard := none }) rfl (fun K hK => ?_) ?_
  · go_simp
    have hq := below_new v0 (.cells #[.int .i64 x.1, .int .i64 x.2.1, .int .i64 x.2.2] 23)
    have F5 : Hid (v0.heap.size < (v0.alloc (.cells #[.int .i64 x.1, .int .i64 x.2.1, .int .i64 x.2.2] 23)).heap.size ∧ At3 (v0.alloc (.cells #[.int .i64 x.1, .int .i64 x.2.1, .int .i64 x.2.2] 23)) v0.heap.size 0 [x]) := Lib.hid ⟨by simp, at3_new _ _ _⟩
    have hS := hHeld.keep hq
    refine hK.out _ _ hS (fun hHeld => ?_)
    clear hK K hHeld
    clear hq
    generalize v0.alloc (.cells #[.int .i64 x.1, .int .i64 x.2.1, .int .i64 x.2.2] 23) = v1 at *
    have hHeld := hS
    clear hS
    try simp only [Act.put, List.setIfInBounds_toArray, List.set_cons_zero, List.set_cons_succ]
    refine wpAnyH_ready (rs := [6, 13]) (by kernel_rfl) (by simp) ?_
    refine AllReadyH.cons (o := { dst := some 10, op := Op.call { callee := Callee.value (Operand.func 246), args := #[Operand.tmp 4, Operand.tmp 9], argTypes := #[62, 40] }, type := 62, pos := "rows.go:26", after := #[{ on := 0, ground := Ground.data }, { on := 5, ground := Ground.data }], guard := none }) rfl (fun K hK => ?_) ?_
    · go_simp
      refine (iwith_any _ k s h _ _ _ [x] _ F5.out.1 (Lib.hid F5.out.2) (by simp) ⟨_, _, _, rfl⟩).mono ?_
      rintro e v2 ⟨v60, rfl, own, hq⟩
      have hq : Below v1.heap.size v1 v2 := ⟨hq.os, hq.tape, hq.output, hq.size, hq.block⟩
      have R6 : Hid (Rd v2 v60 [x]) := Lib.hid (Rd.of_own own.out)
      clear own F5
      have hS := hHeld.keep hq
      go_wp2_with fail
      refine hK.out _ _ hS (fun hHeld => ?_)
      clear hK K hHeld
      clear hq
      have hHeld := hS
      clear hS
      try simp only [Act.put, List.setIfInBounds_toArray, List.set_cons_zero, List.set_cons_succ]
      refine wpAnyH_ready (rs := [7, 13]) (by kernel_rfl) (by simp) ?_
      refine AllReadyH.cons (o := { dst := some 11, op := Op.call { callee := Callee.value (Operand.func 71), args := #[Operand.tmp 10], argTypes := #[62] }, type := 3, pos := "rows.go:26", after := #[{ on := 6, ground := Ground.data }, { on := 6, ground := Ground.chain }], guard := none }) rfl (fun K hK => ?_) ?_
      · go_simp
        refine (Dsize_any _ [x] k s h _ R6.out Ox.out).mono ?_
        rintro e v3 ⟨rfl, hq⟩
        have hq : Below v2.heap.size v2 v3 := ⟨hq.os, hq.tape, hq.output, hq.size, hq.block⟩
        clear R6
        have hS := hHeld.keep hq
        go_wp2_with fail
        refine hK.out _ _ hS (fun hHeld => ?_)
        clear hK K hHeld
        clear hq
        have hHeld := hS
        clear hS
        try simp only [Act.put, List.setIfInBounds_toArray, List.set_cons_zero, List.set_cons_succ]
        refine wpAnyH_ready (rs := [13]) (by kernel_rfl) (by simp) ?_
        refine AllReadyH.cons (o := { dst := some 17, op := Op.buildSlice 40 1 #[(0, Operand.tmp 16)], type := 40, pos := "rows.go:26", after := #[{ on := 12, ground := Ground.data }], guard := none }) rfl (fun K hK => ?_) AllReadyH.nil
        go_simp
        have hq := below_new v3 (.cells #[.int .i64 y.1, .int .i64 y.2.1, .int .i64 y.2.2] 23)
        have F13 : Hid (v3.heap.size < (v3.alloc (.cells #[.int .i64 y.1, .int .i64 y.2.1, .int .i64 y.2.2] 23)).heap.size ∧ At3 (v3.alloc (.cells #[.int .i64 y.1, .int .i64 y.2.1, .int .i64 y.2.2] 23)) v3.heap.size 0 [y]) := Lib.hid ⟨by simp, at3_new _ _ _⟩
        have hS := hHeld.keep hq
        refine hK.out _ _ hS (fun hHeld => ?_)
        clear hK K hHeld
        clear hq
        generalize v3.alloc (.cells #[.int .i64 y.1, .int .i64 y.2.1, .int .i64 y.2.2] 23) = v4 at *
        have hHeld := hS
        clear hS
        try simp only [Act.put, List.setIfInBounds_toArray, List.set_cons_zero, List.set_cons_succ]
        refine wpAnyH_ready (rs := [14]) (by kernel_rfl) (by simp) ?_
        refine AllReadyH.cons (o := { dst := some 18, op := Op.call { callee := Callee.value (Operand.func 246), args := #[Operand.tmp 12, Operand.tmp 17], argTypes := #[62, 40] }, type := 62, pos := "rows.go:26", after := #[{ on := 8, ground := Ground.data }, { on := 13, ground := Ground.data }, { on := 7, ground := Ground.chain }], guard := none }) rfl (fun K hK => ?_) AllReadyH.nil
        go_simp
        refine (iwith_any _ k s h _ _ _ [y] _ F13.out.1 (Lib.hid F13.out.2) (by simp) ⟨_, _, _, rfl⟩).mono ?_
        rintro e v5 ⟨v140, rfl, own, hq⟩
        have hq : Below v4.heap.size v4 v5 := ⟨hq.os, hq.tape, hq.output, hq.size, hq.block⟩
        have R14 : Hid (Rd v5 v140 [y]) := Lib.hid (Rd.of_own own.out)
        clear own F13
        have hS := hHeld.keep hq
        go_wp2_with fail
        refine hK.out _ _ hS (fun hHeld => ?_)
        clear hK K hHeld
        clear hq
        have hHeld := hS
        clear hS
        try simp only [Act.put, List.setIfInBounds_toArray, List.set_cons_zero, List.set_cons_succ]
        refine wpAnyH_ready (rs := [15]) (by kernel_rfl) (by simp) ?_
        refine AllReadyH.cons (o := { dst := some 19, op := Op.call { callee := Callee.value (Operand.func 71), args := #[Operand.tmp 18], argTypes := #[62] }, type := 3, pos := "rows.go:26", after := #[{ on := 14, ground := Ground.data }, { on := 14, ground := Ground.chain }], guard := none }) rfl (fun K hK => ?_) AllReadyH.nil
        go_simp
        refine (Dsize_any _ [y] k s h _ R14.out Oy.out).mono ?_
        rintro e v6 ⟨rfl, hq⟩
        have hq : Below v5.heap.size v5 v6 := ⟨hq.os, hq.tape, hq.output, hq.size, hq.block⟩
        clear R14
        have hS := hHeld.keep hq
        go_wp2_with fail
        refine hK.out _ _ hS (fun hHeld => ?_)
        clear hK K hHeld
        clear hq
        have hHeld := hS
        clear hS
        try simp only [Act.put, List.setIfInBounds_toArray, List.set_cons_zero, List.set_cons_succ]
        refine wpAnyH_take (i := 16) (oi := { dst := some 2, op := Op.assign (Operand.tmp 11), type := 3, pos := "rows.go:26", after := #[{ on := 7, ground := Ground.data }, { on := 15, ground := Ground.chain }, { on := 0, ground := Ground.phase }, { on := 1, ground := Ground.phase }, { on := 2, ground := Ground.phase }, { on := 3, ground := Ground.phase }, { on := 4, ground := Ground.phase }, { on := 5, ground := Ground.phase }, { on := 6, ground := Ground.phase }, { on := 7, ground := Ground.phase }, { on := 8, ground := Ground.textOnly Departure.lateStores }, { on := 9, ground := Ground.textOnly Departure.lateStores }, { on := 10, ground := Ground.textOnly Departure.lateStores }, { on := 11, ground := Ground.textOnly Departure.lateStores }, { on := 12, ground := Ground.textOnly Departure.lateStores }, { on := 13, ground := Ground.textOnly Departure.lateStores }, { on := 14, ground := Ground.textOnly Departure.lateStoresUnsure }, { on := 15, ground := Ground.textOnly Departure.lateStoresUnsure }], guard := none }) (v := ?_) rfl (by kernel_rfl) (by kernel_rfl) (by kernel_rfl) (fun _ _ _ h => h) (Or.inl ⟨by rfl, ?_⟩) (by assumption) ?_
        rotate_left
        · (intro wq hSw; (try dsimp only at hSw); have q0 := hSw.d.c0; have q1 := hSw.d.c1; have q2 := hSw.d.c2; have q3 := hSw.d.c3; have A := HC.out.under hSw.below hb; obtain ⟨x0, x1, x2⟩ := A 0 x rfl; obtain ⟨y0, y1, y2⟩ := A 1 y rfl; simp only [Nat.zero_mul, Nat.add_zero, Nat.one_mul] at x0 x1 x2 y0 y1 y2; have y1b : wq.cell? ⟨b, o + 4, none⟩ = some (.int .i64 y.2.1) := y1; have y2b : wq.cell? ⟨b, o + 5, none⟩ = some (.int .i64 y.2.2) := y2; clear A; clear hSw; go_simp; first | done | with_reducible rfl)
        try simp only [Act.put, List.setIfInBounds_toArray, List.set_cons_zero, List.set_cons_succ]
        refine wpAnyH_take (i := 17) (oi := { dst := some 3, op := Op.assign (Operand.tmp 19), type := 3, pos := "rows.go:26", after := #[{ on := 15, ground := Ground.data }, { on := 16, ground := Ground.chain }, { on := 0, ground := Ground.phase }, { on := 1, ground := Ground.phase }, { on := 2, ground := Ground.phase }, { on := 3, ground := Ground.phase }, { on := 4, ground := Ground.phase }, { on := 5, ground := Ground.phase }, { on := 6, ground := Ground.phase }, { on := 7, ground := Ground.phase }, { on := 8, ground := Ground.phase }, { on := 9, ground := Ground.phase }, { on := 10, ground := Ground.phase }, { on := 11, ground := Ground.phase }, { on := 12, ground := Ground.phase }, { on := 13, ground := Ground.phase }, { on := 14, ground := Ground.phase }, { on := 15, ground := Ground.phase }, { on := 16, ground := Ground.phase }], guard := none }) (v := ?_) rfl (by kernel_rfl) (by kernel_rfl) (by kernel_rfl) (fun _ _ _ h => h) (Or.inl ⟨by rfl, ?_⟩) (by assumption) ?_
        rotate_left
        · (intro wq hSw; (try dsimp only at hSw); have q0 := hSw.d.c0; have q1 := hSw.d.c1; have q2 := hSw.d.c2; have q3 := hSw.d.c3; have A := HC.out.under hSw.below hb; obtain ⟨x0, x1, x2⟩ := A 0 x rfl; obtain ⟨y0, y1, y2⟩ := A 1 y rfl; simp only [Nat.zero_mul, Nat.add_zero, Nat.one_mul] at x0 x1 x2 y0 y1 y2; have y1b : wq.cell? ⟨b, o + 4, none⟩ = some (.int .i64 y.2.1) := y1; have y2b : wq.cell? ⟨b, o + 5, none⟩ = some (.int .i64 y.2.2) := y2; clear A; clear hSw; go_simp; first | done | with_reducible rfl)
        try simp only [Act.put, List.setIfInBounds_toArray, List.set_cons_zero, List.set_cons_succ]
        refine wpAnyH_done (by kernel_rfl) ?_ _
        have T := hHeld.below
        clear hHeld
        go_wp2
        exact bodyPost_ret (v := .tuple #[.int .i64 (dsiz [x] k s h), .int .i64 (dsiz [y] k s h)]) (by simp [results, Try.results236, go_sem, *]) rfl ⟨rfl, T⟩
      refine AllReadyH.cons (o := { dst := some 17, op := Op.buildSlice 40 1 #[(0, Operand.tmp 16)], type := 40, pos := "rows.go:26", after := #[{ on := 12, ground := Ground.data }], guard := none }) rfl (fun K hK => ?_) ?_
      · go_simp
        have hq := below_new v2 (.cells #[.int .i64 y.1, .int .i64 y.2.1, .int .i64 y.2.2] 23)
        have F13 : Hid (v2.heap.size < (v2.alloc (.cells #[.int .i64 y.1, .int .i64 y.2.1, .int .i64 y.2.2] 23)).heap.size ∧ At3 (v2.alloc (.cells #[.int .i64 y.1, .int .i64 y.2.1, .int .i64 y.2.2] 23)) v2.heap.size 0 [y]) := Lib.hid ⟨by simp, at3_new _ _ _⟩
        have R6 := Lib.hid (R6.out.keep hq)
        have hS := hHeld.keep hq
        refine hK.out _ _ hS (fun hHeld => ?_)
        clear hK K hHeld
        clear hq
        generalize v2.alloc (.cells #[.int .i64 y.1, .int .i64 y.2.1, .int .i64 y.2.2] 23) = v7 at *
        have hHeld := hS
        clear hS
        try simp only [Act.put, List.setIfInBounds_toArray, List.set_cons_zero, List.set_cons_succ]
        refine wpAnyH_ready (rs := [7]) (by kernel_rfl) (by simp) ?_
        refine AllReadyH.cons (o := { dst := some 11, op := Op.call { callee := Callee.value (Operand.func 71), args := #[Operand.tmp 10], argTypes := #[62] }, type := 3, pos := "rows.go:26", after := #[{ on := 6, ground := Ground.data }, { on := 6, ground := Ground.chain }], guard := none }) rfl (fun K hK => ?_) AllReadyH.nil
        go_simp
        refine (Dsize_any _ [x] k s h _ R6.out Ox.out).mono ?_
        rintro e v8 ⟨rfl, hq⟩
        have hq : Below v7.heap.size v7 v8 := ⟨hq.os, hq.tape, hq.output, hq.size, hq.block⟩
        have F13 := Lib.hid (at3_keep F13.out hq)
        clear R6
        have hS := hHeld.keep hq
        go_wp2_with fail
        refine hK.out _ _ hS (fun hHeld => ?_)
        clear hK K hHeld
        clear hq
        have hHeld := hS
        clear hS
        try simp only [Act.put, List.setIfInBounds_toArray, List.set_cons_zero, List.set_cons_succ]
        refine wpAnyH_ready (rs := [14]) (by kernel_rfl) (by simp) ?_
        refine AllReadyH.cons (o := { dst := some 18, op := Op.call { callee := Callee.value (Operand.func 246), args := #[Operand.tmp 12, Operand.tmp 17], argTypes := #[62, 40] }, type := 62, pos := "rows.go:26", after := #[{ on := 8, ground := Ground.data }, { on := 13, ground := Ground.data }, { on := 7, ground := Ground.chain }], guard := none }) rfl (fun K hK => ?_) AllReadyH.nil
        go_simp
        refine (iwith_any _ k s h _ _ _ [y] _ F13.out.1 (Lib.hid F13.out.2) (by simp) ⟨_, _, _, rfl⟩).mono ?_
        rintro e v9 ⟨v140, rfl, own, hq⟩
        have hq : Below v8.heap.size v8 v9 := ⟨hq.os, hq.tape, hq.output, hq.size, hq.block⟩
        have R14 : Hid (Rd v9 v140 [y]) := Lib.hid (Rd.of_own own.out)
        clear own F13
        have hS := hHeld.keep hq
        go_wp2_with fail
        refine hK.out _ _ hS (fun hHeld => ?_)
        clear hK K hHeld
        clear hq
        have hHeld := hS
        clear hS
        try simp only [Act.put, List.setIfInBounds_toArray, List.set_cons_zero, List.set_cons_succ]
        refine wpAnyH_ready (rs := [15]) (by kernel_rfl) (by simp) ?_
        refine AllReadyH.cons (o := { dst := some 19, op := Op.call { callee := Callee.value (Operand.func 71), args := #[Operand.tmp 18], argTypes := #[62] }, type := 3, pos := "rows.go:26", after := #[{ on := 14, ground := Ground.data }, { on := 14, ground := Ground.chain }], guard := none }) rfl (fun K hK => ?_) AllReadyH.nil
        go_simp
        refine (Dsize_any _ [y] k s h _ R14.out Oy.out).mono ?_
        rintro e v10 ⟨rfl, hq⟩
        have hq : Below v9.heap.size v9 v10 := ⟨hq.os, hq.tape, hq.output, hq.size, hq.block⟩
        clear R14
        have hS := hHeld.keep hq
        go_wp2_with fail
        refine hK.out _ _ hS (fun hHeld => ?_)
        clear hK K hHeld
        clear hq
        have hHeld := hS
        clear hS
        try simp only [Act.put, List.setIfInBounds_toArray, List.set_cons_zero, List.set_cons_succ]
        refine wpAnyH_take (i := 16) (oi := { dst := some 2, op := Op.assign (Operand.tmp 11), type := 3, pos := "rows.go:26", after := #[{ on := 7, ground := Ground.data }, { on := 15, ground := Ground.chain }, { on := 0, ground := Ground.phase }, { on := 1, ground := Ground.phase }, { on := 2, ground := Ground.phase }, { on := 3, ground := Ground.phase }, { on := 4, ground := Ground.phase }, { on := 5, ground := Ground.phase }, { on := 6, ground := Ground.phase }, { on := 7, ground := Ground.phase }, { on := 8, ground := Ground.textOnly Departure.lateStores }, { on := 9, ground := Ground.textOnly Departure.lateStores }, { on := 10, ground := Ground.textOnly Departure.lateStores }, { on := 11, ground := Ground.textOnly Departure.lateStores }, { on := 12, ground := Ground.textOnly Departure.lateStores }, { on := 13, ground := Ground.textOnly Departure.lateStores }, { on := 14, ground := Ground.textOnly Departure.lateStoresUnsure }, { on := 15, ground := Ground.textOnly Departure.lateStoresUnsure }], guard := none }) (v := ?_) rfl (by kernel_rfl) (by kernel_rfl) (by kernel_rfl) (fun _ _ _ h => h) (Or.inl ⟨by rfl, ?_⟩) (by assumption) ?_
        rotate_left
        · (intro wq hSw; (try dsimp only at hSw); have q0 := hSw.d.c0; have q1 := hSw.d.c1; have q2 := hSw.d.c2; have q3 := hSw.d.c3; have A := HC.out.under hSw.below hb; obtain ⟨x0, x1, x2⟩ := A 0 x rfl; obtain ⟨y0, y1, y2⟩ := A 1 y rfl; simp only [Nat.zero_mul, Nat.add_zero, Nat.one_mul] at x0 x1 x2 y0 y1 y2; have y1b : wq.cell? ⟨b, o + 4, none⟩ = some (.int .i64 y.2.1) := y1; have y2b : wq.cell? ⟨b, o + 5, none⟩ = some (.int .i64 y.2.2) := y2; clear A; clear hSw; go_simp; first | done | with_reducible rfl)
        try simp only [Act.put, List.setIfInBounds_toArray, List.set_cons_zero, List.set_cons_succ]
        refine wpAnyH_take (i := 17) (oi := { dst := some 3, op := Op.assign (Operand.tmp 19), type := 3, pos := "rows.go:26", after := #[{ on := 15, ground := Ground.data }, { on := 16, ground := Ground.chain }, { on := 0, ground := Ground.phase }, { on := 1, ground := Ground.phase }, { on := 2, ground := Ground.phase }, { on := 3, ground := Ground.phase }, { on := 4, ground := Ground.phase }, { on := 5, ground := Ground.phase }, { on := 6, ground := Ground.phase }, { on := 7, ground := Ground.phase }, { on := 8, ground := Ground.phase }, { on := 9, ground := Ground.phase }, { on := 10, ground := Ground.phase }, { on := 11, ground := Ground.phase }, { on := 12, ground := Ground.phase }, { on := 13, ground := Ground.phase }, { on := 14, ground := Ground.phase }, { on := 15, ground := Ground.phase }, { on := 16, ground := Ground.phase }], guard := none }) (v := ?_) rfl (by kernel_rfl) (by kernel_rfl) (by kernel_rfl) (fun _ _ _ h => h) (Or.inl ⟨by rfl, ?_⟩) (by assumption) ?_
        rotate_left
        · (intro wq hSw; (try dsimp only at hSw); have q0 := hSw.d.c0; have q1 := hSw.d.c1; have q2 := hSw.d.c2; have q3 := hSw.d.c3; have A := HC.out.under hSw.below hb; obtain ⟨x0, x1, x2⟩ := A 0 x rfl; obtain ⟨y0, y1, y2⟩ := A 1 y rfl; simp only [Nat.zero_mul, Nat.add_zero, Nat.one_mul] at x0 x1 x2 y0 y1 y2; have y1b : wq.cell? ⟨b, o + 4, none⟩ = some (.int .i64 y.2.1) := y1; have y2b : wq.cell? ⟨b, o + 5, none⟩ = some (.int .i64 y.2.2) := y2; clear A; clear hSw; go_simp; first | done | with_reducible rfl)
        try simp only [Act.put, List.setIfInBounds_toArray, List.set_cons_zero, List.set_cons_succ]
        refine wpAnyH_done (by kernel_rfl) ?_ _
        have T := hHeld.below
        clear hHeld
        go_wp2
        exact bodyPost_ret (v := .tuple #[.int .i64 (dsiz [x] k s h), .int .i64 (dsiz [y] k s h)]) (by simp [results, Try.results236, go_sem, *]) rfl ⟨rfl, T⟩
      exact AllReadyH.nil
    refine AllReadyH.cons (o := { dst := some 17, op := Op.buildSlice 40 1 #[(0, Operand.tmp 16)], type := 40, pos := "rows.go:26", after := #[{ on := 12, ground := Ground.data }], guard := none }) rfl (fun K hK => ?_) ?_
    · go_simp
      have hq := below_new v1 (.cells #[.int .i64 y.1, .int .i64 y.2.1, .int .i64 y.2.2] 23)
      have F13 : Hid (v1.heap.size < (v1.alloc (.cells #[.int .i64 y.1, .int .i64 y.2.1, .int .i64 y.2.2] 23)).heap.size ∧ At3 (v1.alloc (.cells #[.int .i64 y.1, .int .i64 y.2.1, .int .i64 y.2.2] 23)) v1.heap.size 0 [y]) := Lib.hid ⟨by simp, at3_new _ _ _⟩
      have F5 := Lib.hid (at3_keep F5.out hq)
      have hS := hHeld.keep hq
      refine hK.out _ _ hS (fun hHeld => ?_)
      clear hK K hHeld
      clear hq
      generalize v1.alloc (.cells #[.int .i64 y.1, .int .i64 y.2.1, .int .i64 y.2.2] 23) = v11 at *
      have hHeld := hS
      clear hS
      try simp only [Act.put, List.setIfInBounds_toArray, List.set_cons_zero, List.set_cons_succ]
      refine wpAnyH_ready (rs := [6]) (by kernel_rfl) (by simp) ?_
      refine AllReadyH.cons (o := { dst := some 10, op := Op.call { callee := Callee.value (Operand.func 246), args := #[Operand.tmp 4, Operand.tmp 9], argTypes := #[62, 40] }, type := 62, pos := "rows.go:26", after := #[{ on := 0, ground := Ground.data }, { on := 5, ground := Ground.data }], guard := none }) rfl (fun K hK => ?_) AllReadyH.nil
      go_simp
      refine (iwith_any _ k s h _ _ _ [x] _ F5.out.1 (Lib.hid F5.out.2) (by simp) ⟨_, _, _, rfl⟩).mono ?_
      rintro e v12 ⟨v60, rfl, own, hq⟩
      have hq : Below v11.heap.size v11 v12 := ⟨hq.os, hq.tape, hq.output, hq.size, hq.block⟩
      have F13 := Lib.hid (at3_keep F13.out hq)
      have R6 : Hid (Rd v12 v60 [x]) := Lib.hid (Rd.of_own own.out)
      clear own F5
      have hS := hHeld.keep hq
      go_wp2_with fail
      refine hK.out _ _ hS (fun hHeld => ?_)
      clear hK K hHeld
      clear hq
      have hHeld := hS
      clear hS
      try simp only [Act.put, List.setIfInBounds_toArray, List.set_cons_zero, List.set_cons_succ]
      refine wpAnyH_ready (rs := [7]) (by kernel_rfl) (by simp) ?_
      refine AllReadyH.cons (o := { dst := some 11, op := Op.call { callee := Callee.value (Operand.func 71), args := #[Operand.tmp 10], argTypes := #[62] }, type := 3, pos := "rows.go:26", after := #[{ on := 6, ground := Ground.data }, { on := 6, ground := Ground.chain }], guard := none }) rfl (fun K hK => ?_) AllReadyH.nil
      go_simp
      refine (Dsize_any _ [x] k s h _ R6.out Ox.out).mono ?_
      rintro e v13 ⟨rfl, hq⟩
      have hq : Below v12.heap.size v12 v13 := ⟨hq.os, hq.tape, hq.output, hq.size, hq.block⟩
      have F13 := Lib.hid (at3_keep F13.out hq)
      clear R6
      have hS := hHeld.keep hq
      go_wp2_with fail
      refine hK.out _ _ hS (fun hHeld => ?_)
      clear hK K hHeld
      clear hq
      have hHeld := hS
      clear hS
      try simp only [Act.put, List.setIfInBounds_toArray, List.set_cons_zero, List.set_cons_succ]
      refine wpAnyH_ready (rs := [14]) (by kernel_rfl) (by simp) ?_
      refine AllReadyH.cons (o := { dst := some 18, op := Op.call { callee := Callee.value (Operand.func 246), args := #[Operand.tmp 12, Operand.tmp 17], argTypes := #[62, 40] }, type := 62, pos := "rows.go:26", after := #[{ on := 8, ground := Ground.data }, { on := 13, ground := Ground.data }, { on := 7, ground := Ground.chain }], guard := none }) rfl (fun K hK => ?_) AllReadyH.nil
      go_simp
      refine (iwith_any _ k s h _ _ _ [y] _ F13.out.1 (Lib.hid F13.out.2) (by simp) ⟨_, _, _, rfl⟩).mono ?_
      rintro e v14 ⟨v140, rfl, own, hq⟩
      have hq : Below v13.heap.size v13 v14 := ⟨hq.os, hq.tape, hq.output, hq.size, hq.block⟩
      have R14 : Hid (Rd v14 v140 [y]) := Lib.hid (Rd.of_own own.out)
      clear own F13
      have hS := hHeld.keep hq
      go_wp2_with fail
      refine hK.out _ _ hS (fun hHeld => ?_)
      clear hK K hHeld
      clear hq
      have hHeld := hS
      clear hS
      try simp only [Act.put, List.setIfInBounds_toArray, List.set_cons_zero, List.set_cons_succ]
      refine wpAnyH_ready (rs := [15]) (by kernel_rfl) (by simp) ?_
      refine AllReadyH.cons (o := { dst := some 19, op := Op.call { callee := Callee.value (Operand.func 71), args := #[Operand.tmp 18], argTypes := #[62] }, type := 3, pos := "rows.go:26", after := #[{ on := 14, ground := Ground.data }, { on := 14, ground := Ground.chain }], guard := none }) rfl (fun K hK => ?_) AllReadyH.nil
      go_simp
      refine (Dsize_any _ [y] k s h _ R14.out Oy.out).mono ?_
      rintro e v15 ⟨rfl, hq⟩
      have hq : Below v14.heap.size v14 v15 := ⟨hq.os, hq.tape, hq.output, hq.size, hq.block⟩
      clear R14
      have hS := hHeld.keep hq
      go_wp2_with fail
      refine hK.out _ _ hS (fun hHeld => ?_)
      clear hK K hHeld
      clear hq
      have hHeld := hS
      clear hS
      try simp only [Act.put, List.setIfInBounds_toArray, List.set_cons_zero, List.set_cons_succ]
      refine wpAnyH_take (i := 16) (oi := { dst := some 2, op := Op.assign (Operand.tmp 11), type := 3, pos := "rows.go:26", after := #[{ on := 7, ground := Ground.data }, { on := 15, ground := Ground.chain }, { on := 0, ground := Ground.phase }, { on := 1, ground := Ground.phase }, { on := 2, ground := Ground.phase }, { on := 3, ground := Ground.phase }, { on := 4, ground := Ground.phase }, { on := 5, ground := Ground.phase }, { on := 6, ground := Ground.phase }, { on := 7, ground := Ground.phase }, { on := 8, ground := Ground.textOnly Departure.lateStores }, { on := 9, ground := Ground.textOnly Departure.lateStores }, { on := 10, ground := Ground.textOnly Departure.lateStores }, { on := 11, ground := Ground.textOnly Departure.lateStores }, { on := 12, ground := Ground.textOnly Departure.lateStores }, { on := 13, ground := Ground.textOnly Departure.lateStores }, { on := 14, ground := Ground.textOnly Departure.lateStoresUnsure }, { on := 15, ground := Ground.textOnly Departure.lateStoresUnsure }], guard := none }) (v := ?_) rfl (by kernel_rfl) (by kernel_rfl) (by kernel_rfl) (fun _ _ _ h => h) (Or.inl ⟨by rfl, ?_⟩) (by assumption) ?_
      rotate_left
      · (intro wq hSw; (try dsimp only at hSw); have q0 := hSw.d.c0; have q1 := hSw.d.c1; have q2 := hSw.d.c2; have q3 := hSw.d.c3; have A := HC.out.under hSw.below hb; obtain ⟨x0, x1, x2⟩ := A 0 x rfl; obtain ⟨y0, y1, y2⟩ := A 1 y rfl; simp only [Nat.zero_mul, Nat.add_zero, Nat.one_mul] at x0 x1 x2 y0 y1 y2; have y1b : wq.cell? ⟨b, o + 4, none⟩ = some (.int .i64 y.2.1) := y1; have y2b : wq.cell? ⟨b, o + 5, none⟩ = some (.int .i64 y.2.2) := y2; clear A; clear hSw; go_simp; first | done | with_reducible rfl)
      try simp only [Act.put, List.setIfInBounds_toArray, List.set_cons_zero, List.set_cons_succ]
      refine wpAnyH_take (i := 17) (oi := { dst := some 3, op := Op.assign (Operand.tmp 19), type := 3, pos := "rows.go:26", after := #[{ on := 15, ground := Ground.data }, { on := 16, ground := Ground.chain }, { on := 0, ground := Ground.phase }, { on := 1, ground := Ground.phase }, { on := 2, ground := Ground.phase }, { on := 3, ground := Ground.phase }, { on := 4, ground := Ground.phase }, { on := 5, ground := Ground.phase }, { on := 6, ground := Ground.phase }, { on := 7, ground := Ground.phase }, { on := 8, ground := Ground.phase }, { on := 9, ground := Ground.phase }, { on := 10, ground := Ground.phase }, { on := 11, ground := Ground.phase }, { on := 12, ground := Ground.phase }, { on := 13, ground := Ground.phase }, { on := 14, ground := Ground.phase }, { on := 15, ground := Ground.phase }, { on := 16, ground := Ground.phase }], guard := none }) (v := ?_) rfl (by kernel_rfl) (by kernel_rfl) (by kernel_rfl) (fun _ _ _ h => h) (Or.inl ⟨by rfl, ?_⟩) (by assumption) ?_
      rotate_left
      · (intro wq hSw; (try dsimp only at hSw); have q0 := hSw.d.c0; have q1 := hSw.d.c1; have q2 := hSw.d.c2; have q3 := hSw.d.c3; have A := HC.out.under hSw.below hb; obtain ⟨x0, x1, x2⟩ := A 0 x rfl; obtain ⟨y0, y1, y2⟩ := A 1 y rfl; simp only [Nat.zero_mul, Nat.add_zero, Nat.one_mul] at x0 x1 x2 y0 y1 y2; have y1b : wq.cell? ⟨b, o + 4, none⟩ = some (.int .i64 y.2.1) := y1; have y2b : wq.cell? ⟨b, o + 5, none⟩ = some (.int .i64 y.2.2) := y2; clear A; clear hSw; go_simp; first | done | with_reducible rfl)
      try simp only [Act.put, List.setIfInBounds_toArray, List.set_cons_zero, List.set_cons_succ]
      refine wpAnyH_done (by kernel_rfl) ?_ _
      have T := hHeld.below
      clear hHeld
      go_wp2
      exact bodyPost_ret (v := .tuple #[.int .i64 (dsiz [x] k s h), .int .i64 (dsiz [y] k s h)]) (by simp [results, Try.results236, go_sem, *]) rfl ⟨rfl, T⟩
    exact AllReadyH.nil
  refine AllReadyH.cons (o := { dst := some 17, op := Op.buildSlice 40 1 #[(0, Operand.tmp 16)], type := 40, pos := "rows.go:26", after := #[{ on := 12, ground := Ground.data }], guard := none }) rfl (fun K hK => ?_) ?_
  · go_simp
    have hq := below_new v0 (.cells #[.int .i64 y.1, .int .i64 y.2.1, .int .i64 y.2.2] 23)
    have F13 : Hid (v0.heap.size < (v0.alloc (.cells #[.int .i64 y.1, .int .i64 y.2.1, .int .i64 y.2.2] 23)).heap.size ∧ At3 (v0.alloc (.cells #[.int .i64 y.1, .int .i64 y.2.1, .int .i64 y.2.2] 23)) v0.heap.size 0 [y]) := Lib.hid ⟨by simp, at3_new _ _ _⟩
    have hS := hHeld.keep hq
    refine hK.out _ _ hS (fun hHeld => ?_)
    clear hK K hHeld
    clear hq
    generalize v0.alloc (.cells #[.int .i64 y.1, .int .i64 y.2.1, .int .i64 y.2.2] 23) = v16 at *
    have hHeld := hS
    clear hS
    try simp only [Act.put, List.setIfInBounds_toArray, List.set_cons_zero, List.set_cons_succ]
    refine wpAnyH_ready (rs := [5]) (by kernel_rfl) (by simp) ?_
    refine AllReadyH.cons (o := { dst := some 9, op := Op.buildSlice 40 1 #[(0, Operand.tmp 8)], type := 40, pos := "rows.go:26", after := #[{ on := 4, ground := Ground.data }], guard := none }) rfl (fun K hK => ?_) AllReadyH.nil
    go_simp
    have hq := below_new v16 (.cells #[.int .i64 x.1, .int .i64 x.2.1, .int .i64 x.2.2] 23)
    have F5 : Hid (v16.heap.size < (v16.alloc (.cells #[.int .i64 x.1, .int .i64 x.2.1, .int .i64 x.2.2] 23)).heap.size ∧ At3 (v16.alloc (.cells #[.int .i64 x.1, .int .i64 x.2.1, .int .i64 x.2.2] 23)) v16.heap.size 0 [x]) := Lib.hid ⟨by simp, at3_new _ _ _⟩
    have F13 := Lib.hid (at3_keep F13.out hq)
    have hS := hHeld.keep hq
    refine hK.out _ _ hS (fun hHeld => ?_)
    clear hK K hHeld
    clear hq
    generalize v16.alloc (.cells #[.int .i64 x.1, .int .i64 x.2.1, .int .i64 x.2.2] 23) = v17 at *
    have hHeld := hS
    clear hS
    try simp only [Act.put, List.setIfInBounds_toArray, List.set_cons_zero, List.set_cons_succ]
    refine wpAnyH_ready (rs := [6]) (by kernel_rfl) (by simp) ?_
    refine AllReadyH.cons (o := { dst := some 10, op := Op.call { callee := Callee.value (Operand.func 246), args := #[Operand.tmp 4, Operand.tmp 9], argTypes := #[62, 40] }, type := 62, pos := "rows.go:26", after := #[{ on := 0, ground := Ground.data }, { on := 5, ground := Ground.data }], guard := none }) rfl (fun K hK => ?_) AllReadyH.nil
    go_simp
    refine (iwith_any _ k s h _ _ _ [x] _ F5.out.1 (Lib.hid F5.out.2) (by simp) ⟨_, _, _, rfl⟩).mono ?_
    rintro e v18 ⟨v60, rfl, own, hq⟩
    have hq : Below v17.heap.size v17 v18 := ⟨hq.os, hq.tape, hq.output, hq.size, hq.block⟩
    have F13 := Lib.hid (at3_keep F13.out hq)
    have R6 : Hid (Rd v18 v60 [x]) := Lib.hid (Rd.of_own own.out)
    clear own F5
    have hS := hHeld.keep hq
    go_wp2_with fail
    refine hK.out _ _ hS (fun hHeld => ?_)
    clear hK K hHeld
    clear hq
    have hHeld := hS
    clear hS
    try simp only [Act.put, List.setIfInBounds_toArray, List.set_cons_zero, List.set_cons_succ]
    refine wpAnyH_ready (rs := [7]) (by kernel_rfl) (by simp) ?_
    refine AllReadyH.cons (o := { dst := some 11, op := Op.call { callee := Callee.value (Operand.func 71), args := #[Operand.tmp 10], argTypes := #[62] }, type := 3, pos := "rows.go:26", after := #[{ on := 6, ground := Ground.data }, { on := 6, ground := Ground.chain }], guard := none }) rfl (fun K hK => ?_) AllReadyH.nil
    go_simp
    refine (Dsize_any _ [x] k s h _ R6.out Ox.out).mono ?_
    rintro e v19 ⟨rfl, hq⟩
    have hq : Below v18.heap.size v18 v19 := ⟨hq.os, hq.tape, hq.output, hq.size, hq.block⟩
    have F13 := Lib.hid (at3_keep F13.out hq)
    clear R6
    have hS := hHeld.keep hq
    go_wp2_with fail
    refine hK.out _ _ hS (fun hHeld => ?_)
    clear hK K hHeld
    clear hq
    have hHeld := hS
    clear hS
    try simp only [Act.put, List.setIfInBounds_toArray, List.set_cons_zero, List.set_cons_succ]
    refine wpAnyH_ready (rs := [14]) (by kernel_rfl) (by simp) ?_
    refine AllReadyH.cons (o := { dst := some 18, op := Op.call { callee := Callee.value (Operand.func 246), args := #[Operand.tmp 12, Operand.tmp 17], argTypes := #[62, 40] }, type := 62, pos := "rows.go:26", after := #[{ on := 8, ground := Ground.data }, { on := 13, ground := Ground.data }, { on := 7, ground := Ground.chain }], guard := none }) rfl (fun K hK => ?_) AllReadyH.nil
    go_simp
    refine (iwith_any _ k s h _ _ _ [y] _ F13.out.1 (Lib.hid F13.out.2) (by simp) ⟨_, _, _, rfl⟩).mono ?_
    rintro e v20 ⟨v140, rfl, own, hq⟩
    have hq : Below v19.heap.size v19 v20 := ⟨hq.os, hq.tape, hq.output, hq.size, hq.block⟩
    have R14 : Hid (Rd v20 v140 [y]) := Lib.hid (Rd.of_own own.out)
    clear own F13
    have hS := hHeld.keep hq
    go_wp2_with fail
    refine hK.out _ _ hS (fun hHeld => ?_)
    clear hK K hHeld
    clear hq
    have hHeld := hS
    clear hS
    try simp only [Act.put, List.setIfInBounds_toArray, List.set_cons_zero, List.set_cons_succ]
    refine wpAnyH_ready (rs := [15]) (by kernel_rfl) (by simp) ?_
    refine AllReadyH.cons (o := { dst := some 19, op := Op.call { callee := Callee.value (Operand.func 71), args := #[Operand.tmp 18], argTypes := #[62] }, type := 3, pos := "rows.go:26", after := #[{ on := 14, ground := Ground.data }, { on := 14, ground := Ground.chain }], guard := none }) rfl (fun K hK => ?_) AllReadyH.nil
    go_simp
    refine (Dsize_any _ [y] k s h _ R14.out Oy.out).mono ?_
    rintro e v21 ⟨rfl, hq⟩
    have hq : Below v20.heap.size v20 v21 := ⟨hq.os, hq.tape, hq.output, hq.size, hq.block⟩
    clear R14
    have hS := hHeld.keep hq
    go_wp2_with fail
    refine hK.out _ _ hS (fun hHeld => ?_)
    clear hK K hHeld
    clear hq
    have hHeld := hS
    clear hS
    try simp only [Act.put, List.setIfInBounds_toArray, List.set_cons_zero, List.set_cons_succ]
    refine wpAnyH_take (i := 16) (oi := { dst := some 2, op := Op.assign (Operand.tmp 11), type := 3, pos := "rows.go:26", after := #[{ on := 7, ground := Ground.data }, { on := 15, ground := Ground.chain }, { on := 0, ground := Ground.phase }, { on := 1, ground := Ground.phase }, { on := 2, ground := Ground.phase }, { on := 3, ground := Ground.phase }, { on := 4, ground := Ground.phase }, { on := 5, ground := Ground.phase }, { on := 6, ground := Ground.phase }, { on := 7, ground := Ground.phase }, { on := 8, ground := Ground.textOnly Departure.lateStores }, { on := 9, ground := Ground.textOnly Departure.lateStores }, { on := 10, ground := Ground.textOnly Departure.lateStores }, { on := 11, ground := Ground.textOnly Departure.lateStores }, { on := 12, ground := Ground.textOnly Departure.lateStores }, { on := 13, ground := Ground.textOnly Departure.lateStores }, { on := 14, ground := Ground.textOnly Departure.lateStoresUnsure }, { on := 15, ground := Ground.textOnly Departure.lateStoresUnsure }], guard := none }) (v := ?_) rfl (by kernel_rfl) (by kernel_rfl) (by kernel_rfl) (fun _ _ _ h => h) (Or.inl ⟨by rfl, ?_⟩) (by assumption) ?_
    rotate_left
    · (intro wq hSw; (try dsimp only at hSw); have q0 := hSw.d.c0; have q1 := hSw.d.c1; have q2 := hSw.d.c2; have q3 := hSw.d.c3; have A := HC.out.under hSw.below hb; obtain ⟨x0, x1, x2⟩ := A 0 x rfl; obtain ⟨y0, y1, y2⟩ := A 1 y rfl; simp only [Nat.zero_mul, Nat.add_zero, Nat.one_mul] at x0 x1 x2 y0 y1 y2; have y1b : wq.cell? ⟨b, o + 4, none⟩ = some (.int .i64 y.2.1) := y1; have y2b : wq.cell? ⟨b, o + 5, none⟩ = some (.int .i64 y.2.2) := y2; clear A; clear hSw; go_simp; first | done | with_reducible rfl)
    try simp only [Act.put, List.setIfInBounds_toArray, List.set_cons_zero, List.set_cons_succ]
    refine wpAnyH_take (i := 17) (oi := { dst := some 3, op := Op.assign (Operand.tmp 19), type := 3, pos := "rows.go:26", after := #[{ on := 15, ground := Ground.data }, { on := 16, ground := Ground.chain }, { on := 0, ground := Ground.phase }, { on := 1, ground := Ground.phase }, { on := 2, ground := Ground.phase }, { on := 3, ground := Ground.phase }, { on := 4, ground := Ground.phase }, { on := 5, ground := Ground.phase }, { on := 6, ground := Ground.phase }, { on := 7, ground := Ground.phase }, { on := 8, ground := Ground.phase }, { on := 9, ground := Ground.phase }, { on := 10, ground := Ground.phase }, { on := 11, ground := Ground.phase }, { on := 12, ground := Ground.phase }, { on := 13, ground := Ground.phase }, { on := 14, ground := Ground.phase }, { on := 15, ground := Ground.phase }, { on := 16, ground := Ground.phase }], guard := none }) (v := ?_) rfl (by kernel_rfl) (by kernel_rfl) (by kernel_rfl) (fun _ _ _ h => h) (Or.inl ⟨by rfl, ?_⟩) (by assumption) ?_
    rotate_left
    · (intro wq hSw; (try dsimp only at hSw); have q0 := hSw.d.c0; have q1 := hSw.d.c1; have q2 := hSw.d.c2; have q3 := hSw.d.c3; have A := HC.out.under hSw.below hb; obtain ⟨x0, x1, x2⟩ := A 0 x rfl; obtain ⟨y0, y1, y2⟩ := A 1 y rfl; simp only [Nat.zero_mul, Nat.add_zero, Nat.one_mul] at x0 x1 x2 y0 y1 y2; have y1b : wq.cell? ⟨b, o + 4, none⟩ = some (.int .i64 y.2.1) := y1; have y2b : wq.cell? ⟨b, o + 5, none⟩ = some (.int .i64 y.2.2) := y2; clear A; clear hSw; go_simp; first | done | with_reducible rfl)
    try simp only [Act.put, List.setIfInBounds_toArray, List.set_cons_zero, List.set_cons_succ]
    refine wpAnyH_done (by kernel_rfl) ?_ _
    have T := hHeld.below
    clear hHeld
    go_wp2
    exact bodyPost_ret (v := .tuple #[.int .i64 (dsiz [x] k s h), .int .i64 (dsiz [y] k s h)]) (by simp [results, Try.results236, go_sem, *]) rfl ⟨rfl, T⟩
  exact AllReadyH.nil
end Go.Proofs.Ytcpeailodgoilaa
