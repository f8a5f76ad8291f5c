/-
  The walk of the law SpanOf: it returns true for all ints, and no block that was there before has changed.
-/
import Derived.Test.YtdifilndpilboaaSpanH
import Derived.WalkKit
import Derived.WalkSpells
import Derived.WalkLawsBesides
import Derived.BigQuiet
import Derived.Deep.QuietTactic
import Derived.Deep.RegionHeld3
import Derived.Deep.DrawnRows
import Derived.Lib.Hide
namespace Go.Proofs.Ytdifilndpilboaa
open Go.RowKit Go.Op

theorem reqB_self (a b c : Int) : reqB a b c a b c = true := by unfold reqB; simp
theorem eq_range_self (a b c : Int) (w : World) : (binOp .eql 23 (.agg #[.int .i64 a, .int .i64 b, .int .i64 c]) (.agg #[.int .i64 a, .int .i64 b, .int .i64 c])).run Try.prog w = .ok (.bool true) w := by
  rw [eq_range, reqB_self]

set_option maxHeartbeats 4000000 in
theorem spanOf_walk (lo hi st l h s n : Int) (w : World) (hl : I64 l) (hh : I64 h) (hs : I64 s) (hn : I64 n) :
    Calls Try.prog 3 #[.int .i64 lo, .int .i64 hi, .int .i64 st, .agg #[.int .i64 l, .int .i64 h, .int .i64 s], .int .i64 n] w fun e w' => e = .returned (.bool true) ∧ Below w.heap.size w w' := by
  have hq := eq_range_self (ofL lo hi st) (ofH lo hi st) (ofS lo hi st)
  go_enter Try.func3, Try.ntmps3
  go_wp2_with fail
  refine (Of_any lo hi st _).mono ?_
  rintro e w1 ⟨rfl, hb1⟩
  obtain ⟨W1, z1, x0, x1, x2⟩ := box3 hb1
  clear hb1
  go_wp2_with fail
  refine (refOf_any lo hi st _).mono ?_
  rintro e w2 ⟨rfl, hb2⟩
  obtain ⟨V2, z2, a0, a1, a2⟩ := box3 hb2
  have W2 := hidTrans W1 V2.out (by omega)
  obtain ⟨z1, x0, x1, x2⟩ := keep3 V2.out z1 x0 x1 x2
  clear hb2 V2 W1
  go_wp2_with fail
  refine (Nth_any l h s n _ hl hh hs).mono ?_
  rintro e w3 ⟨rfl, hb3⟩
  obtain ⟨V3, z3, c0, c1, c2⟩ := box3 hb3
  have W3 := hidTrans W2 V3.out (by omega)
  obtain ⟨z1, x0, x1, x2⟩ := keep3 V3.out z1 x0 x1 x2
  obtain ⟨z2, a0, a1, a2⟩ := keep3 V3.out z2 a0 a1 a2
  clear hb3 V3 W2
  go_wp2_with fail
  refine (refNth_any l h s n _ hl hh hs).mono ?_
  rintro e w4 ⟨rfl, hb4⟩
  have W4 := hidTrans W3 hb4 (by omega)
  obtain ⟨z1, x0, x1, x2⟩ := keep3 hb4 z1 x0 x1 x2
  obtain ⟨z2, a0, a1, a2⟩ := keep3 hb4 z2 a0 a1 a2
  obtain ⟨z3, c0, c1, c2⟩ := keep3 hb4 z3 c0 c1 c2
  clear hb4 W3
  go_wp2_with fail
  refine (Position_any l h s n _ hl hh hs hn).mono ?_
  rintro e w5 ⟨rfl, hb5⟩
  have W5 := hidTrans W4 hb5 (by omega)
  obtain ⟨z1, x0, x1, x2⟩ := keep3 hb5 z1 x0 x1 x2
  obtain ⟨z2, a0, a1, a2⟩ := keep3 hb5 z2 a0 a1 a2
  obtain ⟨z3, c0, c1, c2⟩ := keep3 hb5 z3 c0 c1 c2
  clear hb5 W4
  go_wp2_with fail
  refine (refPosition_any l h s n _ hl hh hs).mono ?_
  rintro e w6 ⟨rfl, hb6⟩
  have W6 := hidTrans W5 hb6 (by omega)
  obtain ⟨z1, x0, x1, x2⟩ := keep3 hb6 z1 x0 x1 x2
  obtain ⟨z2, a0, a1, a2⟩ := keep3 hb6 z2 a0 a1 a2
  obtain ⟨z3, c0, c1, c2⟩ := keep3 hb6 z3 c0 c1 c2
  clear hb6 W5
  go_wp2_with fail
  refine wp_region_held_drew (S := (fun w' => w'.cell? ⟨w.heap.size, 0, none⟩ = some (.int .i64 l) ∧ w'.cell? ⟨w.heap.size, 1, none⟩ = some (.int .i64 h) ∧ w'.cell? ⟨w.heap.size, 2, none⟩ = some (.int .i64 s) ∧ w'.cell? ⟨w1.heap.size, 0, none⟩ = some (.int .i64 (ofL lo hi st)) ∧ w'.cell? ⟨w1.heap.size, 1, none⟩ = some (.int .i64 (ofH lo hi st)) ∧ w'.cell? ⟨w1.heap.size, 2, none⟩ = some (.int .i64 (ofS lo hi st)) ∧ w'.cell? ⟨w2.heap.size, 0, none⟩ = some (.int .i64 (ofL lo hi st)) ∧ w'.cell? ⟨w2.heap.size, 1, none⟩ = some (.int .i64 (ofH lo hi st)) ∧ w'.cell? ⟨w2.heap.size, 2, none⟩ = some (.int .i64 (ofS lo hi st)))) (by kernel_rfl) ?_ (fun hHeld => ?_)
  · exact ⟨x0, x1, x2, a0, a1, a2, c0, c1, c2⟩
  refine wpAnyH_take (i := 0) (oi := { dst := some 61, op := Op.load 23 (Operand.tmp 11), type := 23, pos := "law.go:40", after := #[], guard := none }) (v := ?_) rfl (by kernel_rfl) (by kernel_rfl) (by kernel_rfl) (fun _ _ _ h => h) (Or.inl ⟨by rfl, ?_⟩) (by assumption) ?_
  rotate_left
  · (intro w hSw; (try dsimp only at hSw); go_simp; first | done | with_reducible rfl)
  try simp only [Act.put, List.setIfInBounds_toArray, List.set_cons_zero, List.set_cons_succ]
  refine wpAnyH_take (i := 1) (oi := { dst := some 62, op := Op.load 23 (Operand.tmp 13), type := 23, pos := "law.go:40", after := #[], guard := none }) (v := ?_) rfl (by kernel_rfl) (by kernel_rfl) (by kernel_rfl) (fun _ _ _ h => h) (Or.inl ⟨by rfl, ?_⟩) (by assumption) ?_
  rotate_left
  · (intro w hSw; (try dsimp only at hSw); go_simp; first | done | with_reducible rfl)
  try simp only [Act.put, List.setIfInBounds_toArray, List.set_cons_zero, List.set_cons_succ]
  refine wpAnyH_take (i := 2) (oi := { dst := some 63, op := Op.binOp BinOp.eql 23 (Operand.tmp 61) (Operand.tmp 62) 23, type := 4, pos := "law.go:40", after := #[{ on := 0, ground := Ground.data }, { on := 1, ground := Ground.data }], guard := none }) (v := ?_) rfl (by kernel_rfl) (by kernel_rfl) (by kernel_rfl) (fun _ _ _ h => h) (Or.inl ⟨by rfl, ?_⟩) (by assumption) ?_
  rotate_left
  · (intro w hSw; (try dsimp only at hSw); go_simp; first | done | with_reducible rfl)
  try simp only [Act.put, List.setIfInBounds_toArray, List.set_cons_zero, List.set_cons_succ]
  refine wpAnyH_take (i := 3) (oi := { dst := some 64, op := Op.move (Operand.tmp 63), type := 4, pos := "law.go:40", after := #[{ on := 2, ground := Ground.data }], guard := none }) (v := ?_) rfl (by kernel_rfl) (by kernel_rfl) (by kernel_rfl) (fun _ _ _ h => h) (Or.inl ⟨by rfl, ?_⟩) (by assumption) ?_
  rotate_left
  · (intro w hSw; (try dsimp only at hSw); go_simp; first | done | with_reducible rfl)
  try simp only [Act.put, List.setIfInBounds_toArray, List.set_cons_zero, List.set_cons_succ]
  refine wpAnyH_take (i := 4) (oi := { dst := some 65, op := Op.move (Operand.tmp 12), type := 24, pos := "law.go:40", after := #[{ on := 3, ground := Ground.guard }], guard := some (3, true) }) (v := ?_) rfl (by kernel_rfl) (by kernel_rfl) (by kernel_rfl) (fun _ _ _ h => h) (Or.inl ⟨by rfl, ?_⟩) (by assumption) ?_
  rotate_left
  · (intro w hSw; (try dsimp only at hSw); go_simp; first | done | with_reducible rfl)
  try simp only [Act.put, List.setIfInBounds_toArray, List.set_cons_zero, List.set_cons_succ]
  refine wpAnyH_take (i := 5) (oi := { dst := some 66, op := Op.move (Operand.tmp 14), type := 24, pos := "law.go:40", after := #[{ on := 3, ground := Ground.guard }], guard := some (3, true) }) (v := ?_) rfl (by kernel_rfl) (by kernel_rfl) (by kernel_rfl) (fun _ _ _ h => h) (Or.inl ⟨by rfl, ?_⟩) (by assumption) ?_
  rotate_left
  · (intro w hSw; (try dsimp only at hSw); go_simp; first | done | with_reducible rfl)
  try simp only [Act.put, List.setIfInBounds_toArray, List.set_cons_zero, List.set_cons_succ]
  refine wpAnyH_take (i := 6) (oi := { dst := some 67, op := Op.binOp BinOp.eql 24 (Operand.tmp 65) (Operand.tmp 66) 24, type := 4, pos := "law.go:40", after := #[{ on := 4, ground := Ground.data }, { on := 5, ground := Ground.data }, { on := 3, ground := Ground.guard }], guard := some (3, true) }) (v := ?_) rfl (by kernel_rfl) (by kernel_rfl) (by kernel_rfl) (fun _ _ _ h => h) (Or.inl ⟨by rfl, ?_⟩) (by assumption) ?_
  rotate_left
  · (intro w hSw; (try dsimp only at hSw); go_simp; first | done | with_reducible rfl)
  try simp only [Act.put, List.setIfInBounds_toArray, List.set_cons_zero, List.set_cons_succ]
  refine wpAnyH_take (i := 7) (oi := { dst := some 68, op := Op.pick (Operand.tmp 64) (Operand.tmp 67) (Operand.const (Value.bool false)), type := 4, pos := "law.go:40", after := #[{ on := 3, ground := Ground.data }, { on := 6, ground := Ground.data }], guard := none }) (v := ?_) rfl (by kernel_rfl) (by kernel_rfl) (by kernel_rfl) (fun _ _ _ h => h) (Or.inl ⟨by rfl, ?_⟩) (by assumption) ?_
  rotate_left
  · (intro w hSw; (try dsimp only at hSw); go_simp; first | done | with_reducible rfl)
  try simp only [Act.put, List.setIfInBounds_toArray, List.set_cons_zero, List.set_cons_succ]
  refine wpAnyH_take (i := 8) (oi := { dst := some 69, op := Op.move (Operand.tmp 68), type := 4, pos := "law.go:40", after := #[{ on := 7, ground := Ground.data }, { on := 3, ground := Ground.chain }], guard := none }) (v := ?_) rfl (by kernel_rfl) (by kernel_rfl) (by kernel_rfl) (fun _ _ _ h => h) (Or.inl ⟨by rfl, ?_⟩) (by assumption) ?_
  rotate_left
  · (intro w hSw; (try dsimp only at hSw); go_simp; first | done | with_reducible rfl)
  try simp only [Act.put, List.setIfInBounds_toArray, List.set_cons_zero, List.set_cons_succ]
  refine wpAnyH_take (i := 9) (oi := { dst := some 70, op := Op.load 23 (Operand.tmp 8), type := 23, pos := "law.go:40", after := #[{ on := 8, ground := Ground.guard }], guard := some (8, true) }) (v := ?_) rfl (by kernel_rfl) (by kernel_rfl) (by kernel_rfl) (fun _ _ _ h => h) (Or.inl ⟨by rfl, ?_⟩) (by assumption) ?_
  rotate_left
  · (intro w hSw; (try dsimp only at hSw); go_simp; first | done | with_reducible rfl)
  try simp only [Act.put, List.setIfInBounds_toArray, List.set_cons_zero, List.set_cons_succ]
  refine wpAnyH_take (i := 11) (oi := { dst := some 72, op := Op.load 23 (Operand.tmp 8), type := 23, pos := "law.go:40", after := #[{ on := 8, ground := Ground.guard }], guard := some (8, true) }) (v := ?_) rfl (by kernel_rfl) (by kernel_rfl) (by kernel_rfl) (fun _ _ _ h => h) (Or.inl ⟨by rfl, ?_⟩) (by assumption) ?_
  rotate_left
  · (intro w hSw; (try dsimp only at hSw); go_simp; first | done | with_reducible rfl)
  try simp only [Act.put, List.setIfInBounds_toArray, List.set_cons_zero, List.set_cons_succ]
  refine wpAnyH_ready (rs := [10]) (by kernel_rfl) (by simp) ?_
  refine AllReadyH.cons (o := { dst := some 71, op := Op.call { callee := Callee.value (Operand.func 21), args := #[Operand.tmp 70], argTypes := #[23] }, type := 24, pos := "law.go:40", after := #[{ on := 9, ground := Ground.data }, { on := 8, ground := Ground.chain }, { on := 8, ground := Ground.guard }], guard := some (8, true) }) rfl (fun K hK => ?_) AllReadyH.nil
  go_simp
  refine (check64 _ _ _ _ hl hh hs).mono ?_
  rintro e w7 ⟨rfl, hb7⟩
  have s7 : w6.heap.size ≤ w7.heap.size := hb7.size
  go_wp2_with fail
  refine hK.out _ _ ?_ (fun hHeld10 => ?_)
  · (obtain ⟨q0, q1, q2, q3, q4, q5, q6, q7, q8⟩ := hHeld; exact ⟨(hb7.cell (p := ⟨w.heap.size, 0, none⟩) (by simp; omega)).trans q0, (hb7.cell (p := ⟨w.heap.size, 1, none⟩) (by simp; omega)).trans q1, (hb7.cell (p := ⟨w.heap.size, 2, none⟩) (by simp; omega)).trans q2, (hb7.cell (p := ⟨w1.heap.size, 0, none⟩) (by simp; omega)).trans q3, (hb7.cell (p := ⟨w1.heap.size, 1, none⟩) (by simp; omega)).trans q4, (hb7.cell (p := ⟨w1.heap.size, 2, none⟩) (by simp; omega)).trans q5, (hb7.cell (p := ⟨w2.heap.size, 0, none⟩) (by simp; omega)).trans q6, (hb7.cell (p := ⟨w2.heap.size, 1, none⟩) (by simp; omega)).trans q7, (hb7.cell (p := ⟨w2.heap.size, 2, none⟩) (by simp; omega)).trans q8⟩)
  clear hK K hHeld
  have hHeld := hHeld10
  clear hHeld10
  try simp only [Act.put, List.setIfInBounds_toArray, List.set_cons_zero, List.set_cons_succ]
  refine wpAnyH_ready (rs := [12]) (by kernel_rfl) (by simp) ?_
  refine AllReadyH.cons (o := { dst := some 73, op := Op.call { callee := Callee.value (Operand.func 22), args := #[Operand.tmp 72], argTypes := #[23] }, type := 24, pos := "law.go:40", after := #[{ on := 11, ground := Ground.data }, { on := 10, ground := Ground.chain }, { on := 8, ground := Ground.guard }], guard := some (8, true) }) rfl (fun K hK => ?_) AllReadyH.nil
  go_simp
  refine (refCheck_any _ _ _ _ hl hh hs).mono ?_
  rintro e w8 ⟨rfl, hb8⟩
  have s8 : w7.heap.size ≤ w8.heap.size := hb8.size
  go_wp2_with fail
  refine hK.out _ _ ?_ (fun hHeld12 => ?_)
  · (obtain ⟨q0, q1, q2, q3, q4, q5, q6, q7, q8⟩ := hHeld; exact ⟨(hb8.cell (p := ⟨w.heap.size, 0, none⟩) (by simp; omega)).trans q0, (hb8.cell (p := ⟨w.heap.size, 1, none⟩) (by simp; omega)).trans q1, (hb8.cell (p := ⟨w.heap.size, 2, none⟩) (by simp; omega)).trans q2, (hb8.cell (p := ⟨w1.heap.size, 0, none⟩) (by simp; omega)).trans q3, (hb8.cell (p := ⟨w1.heap.size, 1, none⟩) (by simp; omega)).trans q4, (hb8.cell (p := ⟨w1.heap.size, 2, none⟩) (by simp; omega)).trans q5, (hb8.cell (p := ⟨w2.heap.size, 0, none⟩) (by simp; omega)).trans q6, (hb8.cell (p := ⟨w2.heap.size, 1, none⟩) (by simp; omega)).trans q7, (hb8.cell (p := ⟨w2.heap.size, 2, none⟩) (by simp; omega)).trans q8⟩)
  clear hK K hHeld
  have hHeld := hHeld12
  clear hHeld12
  try simp only [Act.put, List.setIfInBounds_toArray, List.set_cons_zero, List.set_cons_succ]
  refine wpAnyH_take (i := 13) (oi := { dst := some 74, op := Op.binOp BinOp.eql 24 (Operand.tmp 71) (Operand.tmp 73) 24, type := 4, pos := "law.go:40", after := #[{ on := 10, ground := Ground.data }, { on := 12, ground := Ground.data }, { on := 8, ground := Ground.guard }], guard := some (8, true) }) (v := ?_) rfl (by kernel_rfl) (by kernel_rfl) (by kernel_rfl) (fun _ _ _ h => h) (Or.inl ⟨by rfl, ?_⟩) (by assumption) ?_
  rotate_left
  · (intro w hSw; (try dsimp only at hSw); go_simp; first | done | with_reducible rfl)
  try simp only [Act.put, List.setIfInBounds_toArray, List.set_cons_zero, List.set_cons_succ]
  refine wpAnyH_take (i := 14) (oi := { dst := some 75, op := Op.pick (Operand.tmp 69) (Operand.tmp 74) (Operand.const (Value.bool false)), type := 4, pos := "law.go:40", after := #[{ on := 8, ground := Ground.data }, { on := 13, ground := Ground.data }], guard := none }) (v := ?_) rfl (by kernel_rfl) (by kernel_rfl) (by kernel_rfl) (fun _ _ _ h => h) (Or.inl ⟨by rfl, ?_⟩) (by assumption) ?_
  rotate_left
  · (intro w hSw; (try dsimp only at hSw); go_simp; first | done | with_reducible rfl)
  try simp only [Act.put, List.setIfInBounds_toArray, List.set_cons_zero, List.set_cons_succ]
  refine wpAnyH_take (i := 15) (oi := { dst := some 76, op := Op.move (Operand.tmp 75), type := 4, pos := "law.go:40", after := #[{ on := 14, ground := Ground.data }, { on := 12, ground := Ground.chain }], guard := none }) (v := ?_) rfl (by kernel_rfl) (by kernel_rfl) (by kernel_rfl) (fun _ _ _ h => h) (Or.inl ⟨by rfl, ?_⟩) (by assumption) ?_
  rotate_left
  · (intro w hSw; (try dsimp only at hSw); go_simp; first | done | with_reducible rfl)
  try simp only [Act.put, List.setIfInBounds_toArray, List.set_cons_zero, List.set_cons_succ]
  refine wpAnyH_take (i := 16) (oi := { dst := some 77, op := Op.load 23 (Operand.tmp 8), type := 23, pos := "law.go:40", after := #[{ on := 15, ground := Ground.guard }], guard := some (15, true) }) (v := ?_) rfl (by kernel_rfl) (by kernel_rfl) (by kernel_rfl) (fun _ _ _ h => h) (Or.inl ⟨by rfl, ?_⟩) (by assumption) ?_
  rotate_left
  · (intro w hSw; (try dsimp only at hSw); go_simp; first | done | with_reducible rfl)
  try simp only [Act.put, List.setIfInBounds_toArray, List.set_cons_zero, List.set_cons_succ]
  refine wpAnyH_take (i := 18) (oi := { dst := some 79, op := Op.load 23 (Operand.tmp 8), type := 23, pos := "law.go:40", after := #[{ on := 15, ground := Ground.guard }], guard := some (15, true) }) (v := ?_) rfl (by kernel_rfl) (by kernel_rfl) (by kernel_rfl) (fun _ _ _ h => h) (Or.inl ⟨by rfl, ?_⟩) (by assumption) ?_
  rotate_left
  · (intro w hSw; (try dsimp only at hSw); go_simp; first | done | with_reducible rfl)
  try simp only [Act.put, List.setIfInBounds_toArray, List.set_cons_zero, List.set_cons_succ]
  refine wpAnyH_ready (rs := [17]) (by kernel_rfl) (by simp) ?_
  refine AllReadyH.cons (o := { dst := some 78, op := Op.call { callee := Callee.value (Operand.func 23), args := #[Operand.tmp 77], argTypes := #[23] }, type := 3, pos := "law.go:40", after := #[{ on := 16, ground := Ground.data }, { on := 15, ground := Ground.chain }, { on := 15, ground := Ground.guard }], guard := some (15, true) }) rfl (fun K hK => ?_) AllReadyH.nil
  go_simp
  refine (Size_any _ _ _ _ hl hh hs).mono ?_
  rintro e w9 ⟨rfl, hb9⟩
  have s9 : w8.heap.size ≤ w9.heap.size := hb9.size
  go_wp2_with fail
  refine hK.out _ _ ?_ (fun hHeld17 => ?_)
  · (obtain ⟨q0, q1, q2, q3, q4, q5, q6, q7, q8⟩ := hHeld; exact ⟨(hb9.cell (p := ⟨w.heap.size, 0, none⟩) (by simp; omega)).trans q0, (hb9.cell (p := ⟨w.heap.size, 1, none⟩) (by simp; omega)).trans q1, (hb9.cell (p := ⟨w.heap.size, 2, none⟩) (by simp; omega)).trans q2, (hb9.cell (p := ⟨w1.heap.size, 0, none⟩) (by simp; omega)).trans q3, (hb9.cell (p := ⟨w1.heap.size, 1, none⟩) (by simp; omega)).trans q4, (hb9.cell (p := ⟨w1.heap.size, 2, none⟩) (by simp; omega)).trans q5, (hb9.cell (p := ⟨w2.heap.size, 0, none⟩) (by simp; omega)).trans q6, (hb9.cell (p := ⟨w2.heap.size, 1, none⟩) (by simp; omega)).trans q7, (hb9.cell (p := ⟨w2.heap.size, 2, none⟩) (by simp; omega)).trans q8⟩)
  clear hK K hHeld
  have hHeld := hHeld17
  clear hHeld17
  try simp only [Act.put, List.setIfInBounds_toArray, List.set_cons_zero, List.set_cons_succ]
  refine wpAnyH_ready (rs := [19]) (by kernel_rfl) (by simp) ?_
  refine AllReadyH.cons (o := { dst := some 80, op := Op.call { callee := Callee.value (Operand.func 24), args := #[Operand.tmp 79], argTypes := #[23] }, type := 3, pos := "law.go:40", after := #[{ on := 18, ground := Ground.data }, { on := 17, ground := Ground.chain }, { on := 15, ground := Ground.guard }], guard := some (15, true) }) rfl (fun K hK => ?_) AllReadyH.nil
  go_simp
  refine (refSize_any _ _ _ _ hl hh hs).mono ?_
  rintro e w10 ⟨rfl, hb10⟩
  have s10 : w9.heap.size ≤ w10.heap.size := hb10.size
  go_wp2_with fail
  refine hK.out _ _ ?_ (fun hHeld19 => ?_)
  · (obtain ⟨q0, q1, q2, q3, q4, q5, q6, q7, q8⟩ := hHeld; exact ⟨(hb10.cell (p := ⟨w.heap.size, 0, none⟩) (by simp; omega)).trans q0, (hb10.cell (p := ⟨w.heap.size, 1, none⟩) (by simp; omega)).trans q1, (hb10.cell (p := ⟨w.heap.size, 2, none⟩) (by simp; omega)).trans q2, (hb10.cell (p := ⟨w1.heap.size, 0, none⟩) (by simp; omega)).trans q3, (hb10.cell (p := ⟨w1.heap.size, 1, none⟩) (by simp; omega)).trans q4, (hb10.cell (p := ⟨w1.heap.size, 2, none⟩) (by simp; omega)).trans q5, (hb10.cell (p := ⟨w2.heap.size, 0, none⟩) (by simp; omega)).trans q6, (hb10.cell (p := ⟨w2.heap.size, 1, none⟩) (by simp; omega)).trans q7, (hb10.cell (p := ⟨w2.heap.size, 2, none⟩) (by simp; omega)).trans q8⟩)
  clear hK K hHeld
  have hHeld := hHeld19
  clear hHeld19
  try simp only [Act.put, List.setIfInBounds_toArray, List.set_cons_zero, List.set_cons_succ]
  refine wpAnyH_take (i := 20) (oi := { dst := some 81, op := Op.binOp BinOp.eql 3 (Operand.tmp 78) (Operand.tmp 80) 3, type := 4, pos := "law.go:40", after := #[{ on := 17, ground := Ground.data }, { on := 19, ground := Ground.data }, { on := 15, ground := Ground.guard }], guard := some (15, true) }) (v := ?_) rfl (by kernel_rfl) (by kernel_rfl) (by kernel_rfl) (fun _ _ _ h => h) (Or.inl ⟨by rfl, ?_⟩) (by assumption) ?_
  rotate_left
  · (intro w hSw; (try dsimp only at hSw); go_simp; first | done | with_reducible rfl)
  try simp only [Act.put, List.setIfInBounds_toArray, List.set_cons_zero, List.set_cons_succ]
  refine wpAnyH_take (i := 21) (oi := { dst := some 82, op := Op.pick (Operand.tmp 76) (Operand.tmp 81) (Operand.const (Value.bool false)), type := 4, pos := "law.go:40", after := #[{ on := 15, ground := Ground.data }, { on := 20, ground := Ground.data }], guard := none }) (v := ?_) rfl (by kernel_rfl) (by kernel_rfl) (by kernel_rfl) (fun _ _ _ h => h) (Or.inl ⟨by rfl, ?_⟩) (by assumption) ?_
  rotate_left
  · (intro w hSw; (try dsimp only at hSw); go_simp; first | done | with_reducible rfl)
  try simp only [Act.put, List.setIfInBounds_toArray, List.set_cons_zero, List.set_cons_succ]
  refine wpAnyH_take (i := 22) (oi := { dst := some 83, op := Op.move (Operand.tmp 82), type := 4, pos := "law.go:40", after := #[{ on := 21, ground := Ground.data }, { on := 19, ground := Ground.chain }], guard := none }) (v := ?_) rfl (by kernel_rfl) (by kernel_rfl) (by kernel_rfl) (fun _ _ _ h => h) (Or.inl ⟨by rfl, ?_⟩) (by assumption) ?_
  rotate_left
  · (intro w hSw; (try dsimp only at hSw); go_simp; first | done | with_reducible rfl)
  try simp only [Act.put, List.setIfInBounds_toArray, List.set_cons_zero, List.set_cons_succ]
  refine wpAnyH_take (i := 23) (oi := { dst := some 84, op := Op.load 23 (Operand.tmp 8), type := 23, pos := "law.go:40", after := #[{ on := 22, ground := Ground.guard }], guard := some (22, true) }) (v := ?_) rfl (by kernel_rfl) (by kernel_rfl) (by kernel_rfl) (fun _ _ _ h => h) (Or.inl ⟨by rfl, ?_⟩) (by assumption) ?_
  rotate_left
  · (intro w hSw; (try dsimp only at hSw); go_simp; first | done | with_reducible rfl)
  try simp only [Act.put, List.setIfInBounds_toArray, List.set_cons_zero, List.set_cons_succ]
  refine wpAnyH_take (i := 24) (oi := { dst := some 85, op := Op.move (Operand.tmp 4), type := 3, pos := "law.go:40", after := #[{ on := 22, ground := Ground.guard }], guard := some (22, true) }) (v := ?_) rfl (by kernel_rfl) (by kernel_rfl) (by kernel_rfl) (fun _ _ _ h => h) (Or.inl ⟨by rfl, ?_⟩) (by assumption) ?_
  rotate_left
  · (intro w hSw; (try dsimp only at hSw); go_simp; first | done | with_reducible rfl)
  try simp only [Act.put, List.setIfInBounds_toArray, List.set_cons_zero, List.set_cons_succ]
  refine wpAnyH_take (i := 26) (oi := { dst := some 87, op := Op.load 23 (Operand.tmp 8), type := 23, pos := "law.go:40", after := #[{ on := 22, ground := Ground.guard }], guard := some (22, true) }) (v := ?_) rfl (by kernel_rfl) (by kernel_rfl) (by kernel_rfl) (fun _ _ _ h => h) (Or.inl ⟨by rfl, ?_⟩) (by assumption) ?_
  rotate_left
  · (intro w hSw; (try dsimp only at hSw); go_simp; first | done | with_reducible rfl)
  try simp only [Act.put, List.setIfInBounds_toArray, List.set_cons_zero, List.set_cons_succ]
  refine wpAnyH_take (i := 27) (oi := { dst := some 88, op := Op.move (Operand.tmp 4), type := 3, pos := "law.go:40", after := #[{ on := 22, ground := Ground.guard }], guard := some (22, true) }) (v := ?_) rfl (by kernel_rfl) (by kernel_rfl) (by kernel_rfl) (fun _ _ _ h => h) (Or.inl ⟨by rfl, ?_⟩) (by assumption) ?_
  rotate_left
  · (intro w hSw; (try dsimp only at hSw); go_simp; first | done | with_reducible rfl)
  try simp only [Act.put, List.setIfInBounds_toArray, List.set_cons_zero, List.set_cons_succ]
  refine wpAnyH_ready (rs := [25]) (by kernel_rfl) (by simp) ?_
  refine AllReadyH.cons (o := { dst := some 86, op := Op.call { callee := Callee.value (Operand.func 25), args := #[Operand.tmp 84, Operand.tmp 85], argTypes := #[23, 3] }, type := 4, pos := "law.go:40", after := #[{ on := 23, ground := Ground.data }, { on := 24, ground := Ground.data }, { on := 22, ground := Ground.chain }, { on := 22, ground := Ground.guard }], guard := some (22, true) }) rfl (fun K hK => ?_) AllReadyH.nil
  go_simp
  refine (Has_any _ _ _ _ _ hl hh hs hn).mono ?_
  rintro e w11 ⟨rfl, hb11⟩
  have s11 : w10.heap.size ≤ w11.heap.size := hb11.size
  go_wp2_with fail
  refine hK.out _ _ ?_ (fun hHeld25 => ?_)
  · (obtain ⟨q0, q1, q2, q3, q4, q5, q6, q7, q8⟩ := hHeld; exact ⟨(hb11.cell (p := ⟨w.heap.size, 0, none⟩) (by simp; omega)).trans q0, (hb11.cell (p := ⟨w.heap.size, 1, none⟩) (by simp; omega)).trans q1, (hb11.cell (p := ⟨w.heap.size, 2, none⟩) (by simp; omega)).trans q2, (hb11.cell (p := ⟨w1.heap.size, 0, none⟩) (by simp; omega)).trans q3, (hb11.cell (p := ⟨w1.heap.size, 1, none⟩) (by simp; omega)).trans q4, (hb11.cell (p := ⟨w1.heap.size, 2, none⟩) (by simp; omega)).trans q5, (hb11.cell (p := ⟨w2.heap.size, 0, none⟩) (by simp; omega)).trans q6, (hb11.cell (p := ⟨w2.heap.size, 1, none⟩) (by simp; omega)).trans q7, (hb11.cell (p := ⟨w2.heap.size, 2, none⟩) (by simp; omega)).trans q8⟩)
  clear hK K hHeld
  have hHeld := hHeld25
  clear hHeld25
  try simp only [Act.put, List.setIfInBounds_toArray, List.set_cons_zero, List.set_cons_succ]
  refine wpAnyH_ready (rs := [28]) (by kernel_rfl) (by simp) ?_
  refine AllReadyH.cons (o := { dst := some 89, op := Op.call { callee := Callee.value (Operand.func 26), args := #[Operand.tmp 87, Operand.tmp 88], argTypes := #[23, 3] }, type := 4, pos := "law.go:40", after := #[{ on := 26, ground := Ground.data }, { on := 27, ground := Ground.data }, { on := 25, ground := Ground.chain }, { on := 22, ground := Ground.guard }], guard := some (22, true) }) rfl (fun K hK => ?_) AllReadyH.nil
  go_simp
  refine (refHas_any _ _ _ _ _ hl hh hs).mono ?_
  rintro e w12 ⟨rfl, hb12⟩
  have s12 : w11.heap.size ≤ w12.heap.size := hb12.size
  go_wp2_with fail
  refine hK.out _ _ ?_ (fun hHeld28 => ?_)
  · (obtain ⟨q0, q1, q2, q3, q4, q5, q6, q7, q8⟩ := hHeld; exact ⟨(hb12.cell (p := ⟨w.heap.size, 0, none⟩) (by simp; omega)).trans q0, (hb12.cell (p := ⟨w.heap.size, 1, none⟩) (by simp; omega)).trans q1, (hb12.cell (p := ⟨w.heap.size, 2, none⟩) (by simp; omega)).trans q2, (hb12.cell (p := ⟨w1.heap.size, 0, none⟩) (by simp; omega)).trans q3, (hb12.cell (p := ⟨w1.heap.size, 1, none⟩) (by simp; omega)).trans q4, (hb12.cell (p := ⟨w1.heap.size, 2, none⟩) (by simp; omega)).trans q5, (hb12.cell (p := ⟨w2.heap.size, 0, none⟩) (by simp; omega)).trans q6, (hb12.cell (p := ⟨w2.heap.size, 1, none⟩) (by simp; omega)).trans q7, (hb12.cell (p := ⟨w2.heap.size, 2, none⟩) (by simp; omega)).trans q8⟩)
  clear hK K hHeld
  have hHeld := hHeld28
  clear hHeld28
  try simp only [Act.put, List.setIfInBounds_toArray, List.set_cons_zero, List.set_cons_succ]
  refine wpAnyH_take (i := 29) (oi := { dst := some 90, op := Op.binOp BinOp.eql 4 (Operand.tmp 86) (Operand.tmp 89) 4, type := 4, pos := "law.go:40", after := #[{ on := 25, ground := Ground.data }, { on := 28, ground := Ground.data }, { on := 22, ground := Ground.guard }], guard := some (22, true) }) (v := ?_) rfl (by kernel_rfl) (by kernel_rfl) (by kernel_rfl) (fun _ _ _ h => h) (Or.inl ⟨by rfl, ?_⟩) (by assumption) ?_
  rotate_left
  · (intro w hSw; (try dsimp only at hSw); go_simp; first | done | with_reducible rfl)
  try simp only [Act.put, List.setIfInBounds_toArray, List.set_cons_zero, List.set_cons_succ]
  refine wpAnyH_take (i := 30) (oi := { dst := some 91, op := Op.pick (Operand.tmp 83) (Operand.tmp 90) (Operand.const (Value.bool false)), type := 4, pos := "law.go:40", after := #[{ on := 22, ground := Ground.data }, { on := 29, ground := Ground.data }], guard := none }) (v := ?_) rfl (by kernel_rfl) (by kernel_rfl) (by kernel_rfl) (fun _ _ _ h => h) (Or.inl ⟨by rfl, ?_⟩) (by assumption) ?_
  rotate_left
  · (intro w hSw; (try dsimp only at hSw); go_simp; first | done | with_reducible rfl)
  try simp only [Act.put, List.setIfInBounds_toArray, List.set_cons_zero, List.set_cons_succ]
  refine wpAnyH_take (i := 31) (oi := { dst := some 92, op := Op.move (Operand.tmp 91), type := 4, pos := "law.go:40", after := #[{ on := 30, ground := Ground.data }, { on := 28, ground := Ground.chain }], guard := none }) (v := ?_) rfl (by kernel_rfl) (by kernel_rfl) (by kernel_rfl) (fun _ _ _ h => h) (Or.inl ⟨by rfl, ?_⟩) (by assumption) ?_
  rotate_left
  · (intro w hSw; (try dsimp only at hSw); go_simp; first | done | with_reducible rfl)
  try simp only [Act.put, List.setIfInBounds_toArray, List.set_cons_zero, List.set_cons_succ]
  refine wpAnyH_take (i := 32) (oi := { dst := some 93, op := Op.move (Operand.tmp 15), type := 3, pos := "law.go:40", after := #[{ on := 31, ground := Ground.guard }], guard := some (31, true) }) (v := ?_) rfl (by kernel_rfl) (by kernel_rfl) (by kernel_rfl) (fun _ _ _ h => h) (Or.inl ⟨by rfl, ?_⟩) (by assumption) ?_
  rotate_left
  · (intro w hSw; (try dsimp only at hSw); go_simp; first | done | with_reducible rfl)
  try simp only [Act.put, List.setIfInBounds_toArray, List.set_cons_zero, List.set_cons_succ]
  refine wpAnyH_take (i := 33) (oi := { dst := some 94, op := Op.move (Operand.tmp 17), type := 3, pos := "law.go:40", after := #[{ on := 31, ground := Ground.guard }], guard := some (31, true) }) (v := ?_) rfl (by kernel_rfl) (by kernel_rfl) (by kernel_rfl) (fun _ _ _ h => h) (Or.inl ⟨by rfl, ?_⟩) (by assumption) ?_
  rotate_left
  · (intro w hSw; (try dsimp only at hSw); go_simp; first | done | with_reducible rfl)
  try simp only [Act.put, List.setIfInBounds_toArray, List.set_cons_zero, List.set_cons_succ]
  refine wpAnyH_take (i := 34) (oi := { dst := some 95, op := Op.binOp BinOp.eql 3 (Operand.tmp 93) (Operand.tmp 94) 3, type := 4, pos := "law.go:40", after := #[{ on := 32, ground := Ground.data }, { on := 33, ground := Ground.data }, { on := 31, ground := Ground.guard }], guard := some (31, true) }) (v := ?_) rfl (by kernel_rfl) (by kernel_rfl) (by kernel_rfl) (fun _ _ _ h => h) (Or.inl ⟨by rfl, ?_⟩) (by assumption) ?_
  rotate_left
  · (intro w hSw; (try dsimp only at hSw); go_simp; first | done | with_reducible rfl)
  try simp only [Act.put, List.setIfInBounds_toArray, List.set_cons_zero, List.set_cons_succ]
  refine wpAnyH_take (i := 35) (oi := { dst := some 96, op := Op.pick (Operand.tmp 92) (Operand.tmp 95) (Operand.const (Value.bool false)), type := 4, pos := "law.go:40", after := #[{ on := 31, ground := Ground.data }, { on := 34, ground := Ground.data }], guard := none }) (v := ?_) rfl (by kernel_rfl) (by kernel_rfl) (by kernel_rfl) (fun _ _ _ h => h) (Or.inl ⟨by rfl, ?_⟩) (by assumption) ?_
  rotate_left
  · (intro w hSw; (try dsimp only at hSw); go_simp; first | done | with_reducible rfl)
  try simp only [Act.put, List.setIfInBounds_toArray, List.set_cons_zero, List.set_cons_succ]
  refine wpAnyH_take (i := 36) (oi := { dst := some 97, op := Op.move (Operand.tmp 96), type := 4, pos := "law.go:40", after := #[{ on := 35, ground := Ground.data }, { on := 31, ground := Ground.chain }], guard := none }) (v := ?_) rfl (by kernel_rfl) (by kernel_rfl) (by kernel_rfl) (fun _ _ _ h => h) (Or.inl ⟨by rfl, ?_⟩) (by assumption) ?_
  rotate_left
  · (intro w hSw; (try dsimp only at hSw); go_simp; first | done | with_reducible rfl)
  try simp only [Act.put, List.setIfInBounds_toArray, List.set_cons_zero, List.set_cons_succ]
  refine wpAnyH_take (i := 37) (oi := { dst := some 98, op := Op.move (Operand.tmp 16), type := 24, pos := "law.go:40", after := #[{ on := 36, ground := Ground.guard }], guard := some (36, true) }) (v := ?_) rfl (by kernel_rfl) (by kernel_rfl) (by kernel_rfl) (fun _ _ _ h => h) (Or.inl ⟨by rfl, ?_⟩) (by assumption) ?_
  rotate_left
  · (intro w hSw; (try dsimp only at hSw); go_simp; first | done | with_reducible rfl)
  try simp only [Act.put, List.setIfInBounds_toArray, List.set_cons_zero, List.set_cons_succ]
  refine wpAnyH_take (i := 38) (oi := { dst := some 99, op := Op.move (Operand.tmp 18), type := 24, pos := "law.go:40", after := #[{ on := 36, ground := Ground.guard }], guard := some (36, true) }) (v := ?_) rfl (by kernel_rfl) (by kernel_rfl) (by kernel_rfl) (fun _ _ _ h => h) (Or.inl ⟨by rfl, ?_⟩) (by assumption) ?_
  rotate_left
  · (intro w hSw; (try dsimp only at hSw); go_simp; first | done | with_reducible rfl)
  try simp only [Act.put, List.setIfInBounds_toArray, List.set_cons_zero, List.set_cons_succ]
  refine wpAnyH_take (i := 39) (oi := { dst := some 100, op := Op.binOp BinOp.eql 24 (Operand.tmp 98) (Operand.tmp 99) 24, type := 4, pos := "law.go:40", after := #[{ on := 37, ground := Ground.data }, { on := 38, ground := Ground.data }, { on := 36, ground := Ground.guard }], guard := some (36, true) }) (v := ?_) rfl (by kernel_rfl) (by kernel_rfl) (by kernel_rfl) (fun _ _ _ h => h) (Or.inl ⟨by rfl, ?_⟩) (by assumption) ?_
  rotate_left
  · (intro w hSw; (try dsimp only at hSw); go_simp; first | done | with_reducible rfl)
  try simp only [Act.put, List.setIfInBounds_toArray, List.set_cons_zero, List.set_cons_succ]
  refine wpAnyH_take (i := 40) (oi := { dst := some 101, op := Op.pick (Operand.tmp 97) (Operand.tmp 100) (Operand.const (Value.bool false)), type := 4, pos := "law.go:40", after := #[{ on := 36, ground := Ground.data }, { on := 39, ground := Ground.data }], guard := none }) (v := ?_) rfl (by kernel_rfl) (by kernel_rfl) (by kernel_rfl) (fun _ _ _ h => h) (Or.inl ⟨by rfl, ?_⟩) (by assumption) ?_
  rotate_left
  · (intro w hSw; (try dsimp only at hSw); go_simp; first | done | with_reducible rfl)
  try simp only [Act.put, List.setIfInBounds_toArray, List.set_cons_zero, List.set_cons_succ]
  refine wpAnyH_take (i := 41) (oi := { dst := some 102, op := Op.move (Operand.tmp 101), type := 4, pos := "law.go:40", after := #[{ on := 40, ground := Ground.data }, { on := 36, ground := Ground.chain }], guard := none }) (v := ?_) rfl (by kernel_rfl) (by kernel_rfl) (by kernel_rfl) (fun _ _ _ h => h) (Or.inl ⟨by rfl, ?_⟩) (by assumption) ?_
  rotate_left
  · (intro w hSw; (try dsimp only at hSw); go_simp; first | done | with_reducible rfl)
  try simp only [Act.put, List.setIfInBounds_toArray, List.set_cons_zero, List.set_cons_succ]
  refine wpAnyH_take (i := 42) (oi := { dst := some 103, op := Op.move (Operand.tmp 19), type := 3, pos := "law.go:40", after := #[{ on := 41, ground := Ground.guard }], guard := some (41, true) }) (v := ?_) rfl (by kernel_rfl) (by kernel_rfl) (by kernel_rfl) (fun _ _ _ h => h) (Or.inl ⟨by rfl, ?_⟩) (by assumption) ?_
  rotate_left
  · (intro w hSw; (try dsimp only at hSw); go_simp; first | done | with_reducible rfl)
  try simp only [Act.put, List.setIfInBounds_toArray, List.set_cons_zero, List.set_cons_succ]
  refine wpAnyH_take (i := 43) (oi := { dst := some 104, op := Op.move (Operand.tmp 21), type := 3, pos := "law.go:40", after := #[{ on := 41, ground := Ground.guard }], guard := some (41, true) }) (v := ?_) rfl (by kernel_rfl) (by kernel_rfl) (by kernel_rfl) (fun _ _ _ h => h) (Or.inl ⟨by rfl, ?_⟩) (by assumption) ?_
  rotate_left
  · (intro w hSw; (try dsimp only at hSw); go_simp; first | done | with_reducible rfl)
  try simp only [Act.put, List.setIfInBounds_toArray, List.set_cons_zero, List.set_cons_succ]
  refine wpAnyH_take (i := 44) (oi := { dst := some 105, op := Op.binOp BinOp.eql 3 (Operand.tmp 103) (Operand.tmp 104) 3, type := 4, pos := "law.go:40", after := #[{ on := 42, ground := Ground.data }, { on := 43, ground := Ground.data }, { on := 41, ground := Ground.guard }], guard := some (41, true) }) (v := ?_) rfl (by kernel_rfl) (by kernel_rfl) (by kernel_rfl) (fun _ _ _ h => h) (Or.inl ⟨by rfl, ?_⟩) (by assumption) ?_
  rotate_left
  · (intro w hSw; (try dsimp only at hSw); go_simp; first | done | with_reducible rfl)
  try simp only [Act.put, List.setIfInBounds_toArray, List.set_cons_zero, List.set_cons_succ]
  refine wpAnyH_take (i := 45) (oi := { dst := some 106, op := Op.pick (Operand.tmp 102) (Operand.tmp 105) (Operand.const (Value.bool false)), type := 4, pos := "law.go:40", after := #[{ on := 41, ground := Ground.data }, { on := 44, ground := Ground.data }], guard := none }) (v := ?_) rfl (by kernel_rfl) (by kernel_rfl) (by kernel_rfl) (fun _ _ _ h => h) (Or.inl ⟨by rfl, ?_⟩) (by assumption) ?_
  rotate_left
  · (intro w hSw; (try dsimp only at hSw); go_simp; first | done | with_reducible rfl)
  try simp only [Act.put, List.setIfInBounds_toArray, List.set_cons_zero, List.set_cons_succ]
  refine wpAnyH_take (i := 46) (oi := { dst := some 107, op := Op.move (Operand.tmp 106), type := 4, pos := "law.go:40", after := #[{ on := 45, ground := Ground.data }, { on := 41, ground := Ground.chain }], guard := none }) (v := ?_) rfl (by kernel_rfl) (by kernel_rfl) (by kernel_rfl) (fun _ _ _ h => h) (Or.inl ⟨by rfl, ?_⟩) (by assumption) ?_
  rotate_left
  · (intro w hSw; (try dsimp only at hSw); go_simp; first | done | with_reducible rfl)
  try simp only [Act.put, List.setIfInBounds_toArray, List.set_cons_zero, List.set_cons_succ]
  refine wpAnyH_take (i := 47) (oi := { dst := some 108, op := Op.move (Operand.tmp 20), type := 4, pos := "law.go:40", after := #[{ on := 46, ground := Ground.guard }], guard := some (46, true) }) (v := ?_) rfl (by kernel_rfl) (by kernel_rfl) (by kernel_rfl) (fun _ _ _ h => h) (Or.inl ⟨by rfl, ?_⟩) (by assumption) ?_
  rotate_left
  · (intro w hSw; (try dsimp only at hSw); go_simp; first | done | with_reducible rfl)
  try simp only [Act.put, List.setIfInBounds_toArray, List.set_cons_zero, List.set_cons_succ]
  refine wpAnyH_take (i := 48) (oi := { dst := some 109, op := Op.move (Operand.tmp 22), type := 4, pos := "law.go:40", after := #[{ on := 46, ground := Ground.guard }], guard := some (46, true) }) (v := ?_) rfl (by kernel_rfl) (by kernel_rfl) (by kernel_rfl) (fun _ _ _ h => h) (Or.inl ⟨by rfl, ?_⟩) (by assumption) ?_
  rotate_left
  · (intro w hSw; (try dsimp only at hSw); go_simp; first | done | with_reducible rfl)
  try simp only [Act.put, List.setIfInBounds_toArray, List.set_cons_zero, List.set_cons_succ]
  refine wpAnyH_take (i := 49) (oi := { dst := some 110, op := Op.binOp BinOp.eql 4 (Operand.tmp 108) (Operand.tmp 109) 4, type := 4, pos := "law.go:40", after := #[{ on := 47, ground := Ground.data }, { on := 48, ground := Ground.data }, { on := 46, ground := Ground.guard }], guard := some (46, true) }) (v := ?_) rfl (by kernel_rfl) (by kernel_rfl) (by kernel_rfl) (fun _ _ _ h => h) (Or.inl ⟨by rfl, ?_⟩) (by assumption) ?_
  rotate_left
  · (intro w hSw; (try dsimp only at hSw); go_simp; first | done | with_reducible rfl)
  try simp only [Act.put, List.setIfInBounds_toArray, List.set_cons_zero, List.set_cons_succ]
  refine wpAnyH_take (i := 50) (oi := { dst := some 111, op := Op.pick (Operand.tmp 107) (Operand.tmp 110) (Operand.const (Value.bool false)), type := 4, pos := "law.go:40", after := #[{ on := 46, ground := Ground.data }, { on := 49, ground := Ground.data }], guard := none }) (v := ?_) rfl (by kernel_rfl) (by kernel_rfl) (by kernel_rfl) (fun _ _ _ h => h) (Or.inl ⟨by rfl, ?_⟩) (by assumption) ?_
  rotate_left
  · (intro w hSw; (try dsimp only at hSw); go_simp; first | done | with_reducible rfl)
  try simp only [Act.put, List.setIfInBounds_toArray, List.set_cons_zero, List.set_cons_succ]
  refine wpAnyH_take (i := 51) (oi := { dst := some 112, op := Op.move (Operand.tmp 111), type := 4, pos := "law.go:40", after := #[{ on := 50, ground := Ground.data }, { on := 46, ground := Ground.chain }], guard := none }) (v := ?_) rfl (by kernel_rfl) (by kernel_rfl) (by kernel_rfl) (fun _ _ _ h => h) (Or.inl ⟨by rfl, ?_⟩) (by assumption) ?_
  rotate_left
  · (intro w hSw; (try dsimp only at hSw); go_simp; first | done | with_reducible rfl)
  try simp only [Act.put, List.setIfInBounds_toArray, List.set_cons_zero, List.set_cons_succ]
  refine wpAnyH_ready (rs := [52]) (by kernel_rfl) (by simp) ?_
  refine AllReadyH.cons (o := { dst := some 113, op := Op.call { callee := Callee.value (Operand.func 27), args := #[], argTypes := #[] }, type := 4, pos := "law.go:40", after := #[{ on := 51, ground := Ground.chain }, { on := 51, ground := Ground.guard }], guard := some (51, true) }) rfl (fun K hK => ?_) AllReadyH.nil
  go_simp
  refine (awake_any _).mono ?_
  rintro e w13 ⟨rfl, hb13⟩
  have s13 : w12.heap.size ≤ w13.heap.size := hb13.size
  go_wp2_with fail
  refine hK.out _ _ ?_ (fun hHeld52 => ?_)
  · (obtain ⟨q0, q1, q2, q3, q4, q5, q6, q7, q8⟩ := hHeld; exact ⟨(hb13.cell (p := ⟨w.heap.size, 0, none⟩) (by simp; omega)).trans q0, (hb13.cell (p := ⟨w.heap.size, 1, none⟩) (by simp; omega)).trans q1, (hb13.cell (p := ⟨w.heap.size, 2, none⟩) (by simp; omega)).trans q2, (hb13.cell (p := ⟨w1.heap.size, 0, none⟩) (by simp; omega)).trans q3, (hb13.cell (p := ⟨w1.heap.size, 1, none⟩) (by simp; omega)).trans q4, (hb13.cell (p := ⟨w1.heap.size, 2, none⟩) (by simp; omega)).trans q5, (hb13.cell (p := ⟨w2.heap.size, 0, none⟩) (by simp; omega)).trans q6, (hb13.cell (p := ⟨w2.heap.size, 1, none⟩) (by simp; omega)).trans q7, (hb13.cell (p := ⟨w2.heap.size, 2, none⟩) (by simp; omega)).trans q8⟩)
  clear hK K hHeld
  have hHeld := hHeld52
  clear hHeld52
  try simp only [Act.put, List.setIfInBounds_toArray, List.set_cons_zero, List.set_cons_succ]
  refine wpAnyH_take (i := 53) (oi := { dst := some 114, op := Op.pick (Operand.tmp 112) (Operand.tmp 113) (Operand.const (Value.bool false)), type := 4, pos := "law.go:40", after := #[{ on := 51, ground := Ground.data }, { on := 52, ground := Ground.data }], guard := none }) (v := ?_) rfl (by kernel_rfl) (by kernel_rfl) (by kernel_rfl) (fun _ _ _ h => h) (Or.inl ⟨by rfl, ?_⟩) (by assumption) ?_
  rotate_left
  · (intro w hSw; (try dsimp only at hSw); go_simp; first | done | with_reducible rfl)
  try simp only [Act.put, List.setIfInBounds_toArray, List.set_cons_zero, List.set_cons_succ]
  refine wpAnyH_take (i := 54) (oi := { dst := some 10, op := Op.assign (Operand.tmp 114), type := 4, pos := "law.go:40", after := #[{ on := 53, ground := Ground.data }, { on := 52, ground := Ground.chain }, { on := 0, ground := Ground.phase }, { on := 1, ground := Ground.phase }, { on := 2, ground := Ground.phase }, { on := 3, ground := Ground.phase }, { on := 4, ground := Ground.phase }, { on := 5, ground := Ground.phase }, { on := 6, ground := Ground.phase }, { on := 7, ground := Ground.phase }, { on := 8, ground := Ground.phase }, { on := 9, ground := Ground.phase }, { on := 10, ground := Ground.phase }, { on := 11, ground := Ground.phase }, { on := 12, ground := Ground.phase }, { on := 13, ground := Ground.phase }, { on := 14, ground := Ground.phase }, { on := 15, ground := Ground.phase }, { on := 16, ground := Ground.phase }, { on := 17, ground := Ground.phase }, { on := 18, ground := Ground.phase }, { on := 19, ground := Ground.phase }, { on := 20, ground := Ground.phase }, { on := 21, ground := Ground.phase }, { on := 22, ground := Ground.phase }, { on := 23, ground := Ground.phase }, { on := 24, ground := Ground.phase }, { on := 25, ground := Ground.phase }, { on := 26, ground := Ground.phase }, { on := 27, ground := Ground.phase }, { on := 28, ground := Ground.phase }, { on := 29, ground := Ground.phase }, { on := 30, ground := Ground.phase }, { on := 31, ground := Ground.phase }, { on := 32, ground := Ground.phase }, { on := 33, ground := Ground.phase }, { on := 34, ground := Ground.phase }, { on := 35, ground := Ground.phase }, { on := 36, ground := Ground.phase }, { on := 37, ground := Ground.phase }, { on := 38, ground := Ground.phase }, { on := 39, ground := Ground.phase }, { on := 40, ground := Ground.phase }, { on := 41, ground := Ground.phase }, { on := 42, ground := Ground.phase }, { on := 43, ground := Ground.phase }, { on := 44, ground := Ground.phase }, { on := 45, ground := Ground.phase }, { on := 46, ground := Ground.phase }, { on := 47, ground := Ground.phase }, { on := 48, ground := Ground.phase }, { on := 49, ground := Ground.phase }, { on := 50, ground := Ground.phase }, { on := 51, ground := Ground.phase }, { on := 52, ground := Ground.phase }, { on := 53, ground := Ground.phase }], guard := none }) (v := ?_) rfl (by kernel_rfl) (by kernel_rfl) (by kernel_rfl) (fun _ _ _ h => h) (Or.inl ⟨by rfl, ?_⟩) (by assumption) ?_
  rotate_left
  · (intro w hSw; (try dsimp only at hSw); go_simp; first | done | with_reducible rfl)
  try simp only [Act.put, List.setIfInBounds_toArray, List.set_cons_zero, List.set_cons_succ]
  refine wpAnyH_done (by kernel_rfl) ?_ _
  have W := (((((((W6.out.drew.trans (hb7.mono (by simp; omega))).trans (hb8.mono (by omega))).trans (hb9.mono (by omega))).trans (hb10.mono (by omega))).trans (hb11.mono (by omega))).trans (hb12.mono (by omega))).trans (hb13.mono (by omega)))
  clear hHeld hq
  go_wp2
  go_ret
  exact ⟨rfl, W⟩
end Go.Proofs.Ytdifilndpilboaa
