/-
  Part 4: RefD, RefE, SpanF, SpanG.
-/
import Derived.Test.YtabgphlpdoockaaDo3
import Derived.BigQuiet
import Derived.Deep.DeepCutAuto
import Derived.Deep.DrawnRows
import Derived.Deep.QuietTactic
import Derived.Deep.RegionHeld3
import Derived.Deep.RegionWith
import Derived.Lib.Hide
import Derived.WalkKit
import Derived.WalkLawsBesides
import Derived.WalkSpells
namespace Go.Proofs.Ytabgphlpdoockaa
open Go.RowKit
set_option maxHeartbeats 800000 in
theorem refHas_in (l h s n : Int) (w : World) (hk : Hid (chk l h s = 0)) (h1 : l ≤ n) (h2 : n ≤ h) :
    Calls Try.prog 29 #[.agg #[.int .i64 l, .int .i64 h, .int .i64 s], .int .i64 n] w fun e w' => e = .returned (.bool ((n - l) % magA s == 0)) ∧ Below w.heap.size w w' := by
  obtain ⟨b1, b2, b3, b4, b5, b6, b7, b8⟩ := chk_bounds hk.out
  have q := quo_bd (h - l) (magA s) (by omega) b7
  have hz : decide (0 < siz l h s) = true := by rw [siz_ok hk.out (by omega)]; simp; omega
  have d1 : decide (l ≤ n) = true := by simp; omega
  have d2 : decide (n ≤ h) = true := by simp; omega
  have hm : ¬ magA s = 0 := by omega
  have k1 : IntKind.i64.wrap (n - l) = n - l := IntWalk.i64_in _ (by omega)
  have k2 : (n - l).tmod (magA s) = (n - l) % magA s := IntWalk.rem_in _ _ (by omega)
  clear q
  go_enter Try.func29, Try.ntmps29
  go_wp2_with fail
  refine wp_region_held_drew (S := (fun w' => w'.cell? ⟨w.heap.size, 0, none⟩ = some (.int .i64 l) ∧ w'.cell? ⟨w.heap.size, 1, none⟩ = some (.int .i64 h) ∧ w'.cell? ⟨w.heap.size, 2, none⟩ = some (.int .i64 s))) (by kernel_rfl) ?_ (fun hHeld => ?_)
  · first | go_keep | (refine ⟨?_, ?_, ?_⟩ <;> (rw [hc2 _ _ s1]; go_keep)) | (refine ⟨?_, ?_, ?_⟩ <;> (rw [hc1 _ _ (by simp)]; go_keep))
  refine wpAnyH_take (i := 0) (oi := { dst := some 5, op := Op.load 23 (Operand.tmp 2), type := 23, pos := "ref.go:101", after := #[], guard := none }) (v := ?_) rfl (by kernel_rfl) (by kernel_rfl) (by kernel_rfl) (fun _ _ _ h => h) (Or.inl ⟨by rfl, ?_⟩) (by assumption) ?_
  rotate_left
  · (intro w hSw; (try dsimp only at hSw); go_simp; first | done | with_reducible rfl)
  try simp only [Act.put, List.setIfInBounds_toArray, List.set_cons_zero, List.set_cons_succ]
  refine wpAnyH_ready (rs := [1]) (by kernel_rfl) (by simp) ?_
  refine AllReadyH.cons (o := { dst := some 6, op := Op.call { callee := Callee.value (Operand.func 27), args := #[Operand.tmp 5], argTypes := #[23] }, type := 3, pos := "ref.go:101", after := #[{ on := 0, ground := Ground.data }], guard := none }) rfl (fun K hK => ?_) AllReadyH.nil
  go_simp
  refine (refSize_any _ _ _ _ ⟨by omega, by omega⟩ ⟨by omega, by omega⟩ ⟨by omega, by omega⟩).mono ?_
  rintro e w1 ⟨rfl, hb1⟩
  obtain ⟨hc1, hf1⟩ := bcell hb1
  have s1 : w.heap.size < w1.heap.size := by have := hb1.size; simp at this; omega
  go_wp2_with fail
  refine hK.out _ _ ?_ (fun hHeld1 => ?_)
  · first | go_keep | (refine ⟨?_, ?_, ?_⟩ <;> (rw [hc2 _ _ s1]; go_keep)) | (refine ⟨?_, ?_, ?_⟩ <;> (rw [hc1 _ _ (by simp)]; go_keep))
  clear hK K hHeld
  have hHeld := hHeld1
  clear hHeld1
  try simp only [Act.put, List.setIfInBounds_toArray, List.set_cons_zero, List.set_cons_succ]
  refine wpAnyH_take (i := 2) (oi := { dst := some 7, op := Op.binOp BinOp.gtr 3 (Operand.tmp 6) (Operand.const (Value.int IntKind.i64 0)) 3, type := 4, pos := "ref.go:101", after := #[{ on := 1, ground := Ground.data }], guard := none }) (v := ?_) rfl (by kernel_rfl) (by kernel_rfl) (by kernel_rfl) (fun _ _ _ h => h) (Or.inl ⟨by rfl, ?_⟩) (by assumption) ?_
  rotate_left
  · (intro w hSw; (try dsimp only at hSw); go_simp; first | done | with_reducible rfl)
  try simp only [Act.put, List.setIfInBounds_toArray, List.set_cons_zero, List.set_cons_succ]
  refine wpAnyH_take (i := 3) (oi := { dst := some 8, op := Op.move (Operand.tmp 7), type := 4, pos := "ref.go:101", after := #[{ on := 2, ground := Ground.data }, { on := 1, ground := Ground.chain }], guard := none }) (v := ?_) rfl (by kernel_rfl) (by kernel_rfl) (by kernel_rfl) (fun _ _ _ h => h) (Or.inl ⟨by rfl, ?_⟩) (by assumption) ?_
  rotate_left
  · (intro w hSw; (try dsimp only at hSw); go_simp; first | done | with_reducible rfl)
  try simp only [Act.put, List.setIfInBounds_toArray, List.set_cons_zero, List.set_cons_succ]
  refine wpAnyH_take (i := 4) (oi := { dst := some 9, op := Op.move (Operand.tmp 1), type := 3, pos := "ref.go:101", after := #[{ on := 3, ground := Ground.guard }], guard := some (3, true) }) (v := ?_) rfl (by kernel_rfl) (by kernel_rfl) (by kernel_rfl) (fun _ _ _ h => h) (Or.inl ⟨by rfl, ?_⟩) (by assumption) ?_
  rotate_left
  · (intro w hSw; (try dsimp only at hSw); go_simp; first | done | with_reducible rfl)
  try simp only [Act.put, List.setIfInBounds_toArray, List.set_cons_zero, List.set_cons_succ]
  refine wpAnyH_take (i := 5) (oi := { dst := some 10, op := Op.fieldAddr 23 (Operand.tmp 2) 0, type := 0, pos := "ref.go:101", after := #[{ on := 3, ground := Ground.guard }], guard := some (3, true) }) (v := ?_) rfl (by kernel_rfl) (by kernel_rfl) (by kernel_rfl) (fun _ _ _ h => h) (Or.inl ⟨by rfl, ?_⟩) (by assumption) ?_
  rotate_left
  · (intro w hSw; (try dsimp only at hSw); go_simp; first | done | with_reducible rfl)
  try simp only [Act.put, List.setIfInBounds_toArray, List.set_cons_zero, List.set_cons_succ]
  refine wpAnyH_take (i := 6) (oi := { dst := some 11, op := Op.load 3 (Operand.tmp 10), type := 3, pos := "ref.go:101", after := #[{ on := 5, ground := Ground.data }, { on := 3, ground := Ground.guard }], guard := some (3, true) }) (v := ?_) rfl (by kernel_rfl) (by kernel_rfl) (by kernel_rfl) (fun _ _ _ h => h) (Or.inl ⟨by rfl, ?_⟩) (by assumption) ?_
  rotate_left
  · (intro w hSw; (try dsimp only at hSw); go_simp; first | done | with_reducible rfl)
  try simp only [Act.put, List.setIfInBounds_toArray, List.set_cons_zero, List.set_cons_succ]
  refine wpAnyH_take (i := 7) (oi := { dst := some 12, op := Op.binOp BinOp.geq 3 (Operand.tmp 9) (Operand.tmp 11) 3, type := 4, pos := "ref.go:101", after := #[{ on := 4, ground := Ground.data }, { on := 6, ground := Ground.data }, { on := 3, ground := Ground.guard }], guard := some (3, true) }) (v := ?_) rfl (by kernel_rfl) (by kernel_rfl) (by kernel_rfl) (fun _ _ _ h => h) (Or.inl ⟨by rfl, ?_⟩) (by assumption) ?_
  rotate_left
  · (intro w hSw; (try dsimp only at hSw); go_simp; first | done | with_reducible rfl)
  try simp only [Act.put, List.setIfInBounds_toArray, List.set_cons_zero, List.set_cons_succ]
  refine wpAnyH_take (i := 8) (oi := { dst := some 13, op := Op.pick (Operand.tmp 8) (Operand.tmp 12) (Operand.const (Value.bool false)), type := 4, pos := "ref.go:101", after := #[{ on := 3, ground := Ground.data }, { on := 7, ground := Ground.data }], guard := none }) (v := ?_) rfl (by kernel_rfl) (by kernel_rfl) (by kernel_rfl) (fun _ _ _ h => h) (Or.inl ⟨by rfl, ?_⟩) (by assumption) ?_
  rotate_left
  · (intro w hSw; (try dsimp only at hSw); go_simp; first | done | with_reducible rfl)
  try simp only [Act.put, List.setIfInBounds_toArray, List.set_cons_zero, List.set_cons_succ]
  refine wpAnyH_take (i := 9) (oi := { dst := some 14, op := Op.move (Operand.tmp 13), type := 4, pos := "ref.go:101", after := #[{ on := 8, ground := Ground.data }, { on := 3, ground := Ground.chain }], guard := none }) (v := ?_) rfl (by kernel_rfl) (by kernel_rfl) (by kernel_rfl) (fun _ _ _ h => h) (Or.inl ⟨by rfl, ?_⟩) (by assumption) ?_
  rotate_left
  · (intro w hSw; (try dsimp only at hSw); go_simp; first | done | with_reducible rfl)
  try simp only [Act.put, List.setIfInBounds_toArray, List.set_cons_zero, List.set_cons_succ]
  refine wpAnyH_take (i := 10) (oi := { dst := some 15, op := Op.move (Operand.tmp 1), type := 3, pos := "ref.go:101", after := #[{ on := 9, ground := Ground.guard }], guard := some (9, true) }) (v := ?_) rfl (by kernel_rfl) (by kernel_rfl) (by kernel_rfl) (fun _ _ _ h => h) (Or.inl ⟨by rfl, ?_⟩) (by assumption) ?_
  rotate_left
  · (intro w hSw; (try dsimp only at hSw); go_simp; first | done | with_reducible rfl)
  try simp only [Act.put, List.setIfInBounds_toArray, List.set_cons_zero, List.set_cons_succ]
  refine wpAnyH_take (i := 11) (oi := { dst := some 16, op := Op.fieldAddr 23 (Operand.tmp 2) 1, type := 0, pos := "ref.go:101", after := #[{ on := 9, ground := Ground.guard }], guard := some (9, true) }) (v := ?_) rfl (by kernel_rfl) (by kernel_rfl) (by kernel_rfl) (fun _ _ _ h => h) (Or.inl ⟨by rfl, ?_⟩) (by assumption) ?_
  rotate_left
  · (intro w hSw; (try dsimp only at hSw); go_simp; first | done | with_reducible rfl)
  try simp only [Act.put, List.setIfInBounds_toArray, List.set_cons_zero, List.set_cons_succ]
  refine wpAnyH_take (i := 12) (oi := { dst := some 17, op := Op.load 3 (Operand.tmp 16), type := 3, pos := "ref.go:101", after := #[{ on := 11, ground := Ground.data }, { on := 9, ground := Ground.guard }], guard := some (9, true) }) (v := ?_) rfl (by kernel_rfl) (by kernel_rfl) (by kernel_rfl) (fun _ _ _ h => h) (Or.inl ⟨by rfl, ?_⟩) (by assumption) ?_
  rotate_left
  · (intro w hSw; (try dsimp only at hSw); go_simp; first | done | with_reducible rfl)
  try simp only [Act.put, List.setIfInBounds_toArray, List.set_cons_zero, List.set_cons_succ]
  refine wpAnyH_take (i := 13) (oi := { dst := some 18, op := Op.binOp BinOp.leq 3 (Operand.tmp 15) (Operand.tmp 17) 3, type := 4, pos := "ref.go:101", after := #[{ on := 10, ground := Ground.data }, { on := 12, ground := Ground.data }, { on := 9, ground := Ground.guard }], guard := some (9, true) }) (v := ?_) rfl (by kernel_rfl) (by kernel_rfl) (by kernel_rfl) (fun _ _ _ h => h) (Or.inl ⟨by rfl, ?_⟩) (by assumption) ?_
  rotate_left
  · (intro w hSw; (try dsimp only at hSw); go_simp; first | done | with_reducible rfl)
  try simp only [Act.put, List.setIfInBounds_toArray, List.set_cons_zero, List.set_cons_succ]
  refine wpAnyH_take (i := 14) (oi := { dst := some 19, op := Op.pick (Operand.tmp 14) (Operand.tmp 18) (Operand.const (Value.bool false)), type := 4, pos := "ref.go:101", after := #[{ on := 9, ground := Ground.data }, { on := 13, ground := Ground.data }], guard := none }) (v := ?_) rfl (by kernel_rfl) (by kernel_rfl) (by kernel_rfl) (fun _ _ _ h => h) (Or.inl ⟨by rfl, ?_⟩) (by assumption) ?_
  rotate_left
  · (intro w hSw; (try dsimp only at hSw); go_simp; first | done | with_reducible rfl)
  try simp only [Act.put, List.setIfInBounds_toArray, List.set_cons_zero, List.set_cons_succ]
  refine wpAnyH_take (i := 15) (oi := { dst := some 20, op := Op.move (Operand.tmp 19), type := 4, pos := "ref.go:101", after := #[{ on := 14, ground := Ground.data }, { on := 9, ground := Ground.chain }], guard := none }) (v := ?_) rfl (by kernel_rfl) (by kernel_rfl) (by kernel_rfl) (fun _ _ _ h => h) (Or.inl ⟨by rfl, ?_⟩) (by assumption) ?_
  rotate_left
  · (intro w hSw; (try dsimp only at hSw); go_simp; first | done | with_reducible rfl)
  try simp only [Act.put, List.setIfInBounds_toArray, List.set_cons_zero, List.set_cons_succ]
  refine wpAnyH_take (i := 16) (oi := { dst := some 21, op := Op.move (Operand.tmp 1), type := 3, pos := "ref.go:101", after := #[{ on := 15, ground := Ground.guard }], guard := some (15, true) }) (v := ?_) rfl (by kernel_rfl) (by kernel_rfl) (by kernel_rfl) (fun _ _ _ h => h) (Or.inl ⟨by rfl, ?_⟩) (by assumption) ?_
  rotate_left
  · (intro w hSw; (try dsimp only at hSw); go_simp; first | done | with_reducible rfl)
  try simp only [Act.put, List.setIfInBounds_toArray, List.set_cons_zero, List.set_cons_succ]
  refine wpAnyH_take (i := 17) (oi := { dst := some 22, op := Op.fieldAddr 23 (Operand.tmp 2) 0, type := 0, pos := "ref.go:101", after := #[{ on := 15, ground := Ground.guard }], guard := some (15, true) }) (v := ?_) rfl (by kernel_rfl) (by kernel_rfl) (by kernel_rfl) (fun _ _ _ h => h) (Or.inl ⟨by rfl, ?_⟩) (by assumption) ?_
  rotate_left
  · (intro w hSw; (try dsimp only at hSw); go_simp; first | done | with_reducible rfl)
  try simp only [Act.put, List.setIfInBounds_toArray, List.set_cons_zero, List.set_cons_succ]
  refine wpAnyH_take (i := 18) (oi := { dst := some 23, op := Op.load 3 (Operand.tmp 22), type := 3, pos := "ref.go:101", after := #[{ on := 17, ground := Ground.data }, { on := 15, ground := Ground.guard }], guard := some (15, true) }) (v := ?_) rfl (by kernel_rfl) (by kernel_rfl) (by kernel_rfl) (fun _ _ _ h => h) (Or.inl ⟨by rfl, ?_⟩) (by assumption) ?_
  rotate_left
  · (intro w hSw; (try dsimp only at hSw); go_simp; first | done | with_reducible rfl)
  try simp only [Act.put, List.setIfInBounds_toArray, List.set_cons_zero, List.set_cons_succ]
  refine wpAnyH_take (i := 19) (oi := { dst := some 24, op := Op.binOp BinOp.sub 3 (Operand.tmp 21) (Operand.tmp 23) 3, type := 3, pos := "ref.go:101", after := #[{ on := 16, ground := Ground.data }, { on := 18, ground := Ground.data }, { on := 15, ground := Ground.guard }], guard := some (15, true) }) (v := ?_) rfl (by kernel_rfl) (by kernel_rfl) (by kernel_rfl) (fun _ _ _ h => h) (Or.inl ⟨by rfl, ?_⟩) (by assumption) ?_
  rotate_left
  · (intro w hSw; (try dsimp only at hSw); go_simp; first | done | with_reducible rfl)
  try simp only [Act.put, List.setIfInBounds_toArray, List.set_cons_zero, List.set_cons_succ]
  refine wpAnyH_take (i := 20) (oi := { dst := some 25, op := Op.load 23 (Operand.tmp 2), type := 23, pos := "ref.go:101", after := #[{ on := 15, ground := Ground.guard }], guard := some (15, true) }) (v := ?_) rfl (by kernel_rfl) (by kernel_rfl) (by kernel_rfl) (fun _ _ _ h => h) (Or.inl ⟨by rfl, ?_⟩) (by assumption) ?_
  rotate_left
  · (intro w hSw; (try dsimp only at hSw); go_simp; first | done | with_reducible rfl)
  try simp only [Act.put, List.setIfInBounds_toArray, List.set_cons_zero, List.set_cons_succ]
  refine wpAnyH_ready (rs := [21]) (by kernel_rfl) (by simp) ?_
  refine AllReadyH.cons (o := { dst := some 26, op := Op.call { callee := Callee.value (Operand.func 112), args := #[Operand.tmp 25], argTypes := #[23] }, type := 3, pos := "ref.go:101", after := #[{ on := 20, ground := Ground.data }, { on := 15, ground := Ground.chain }, { on := 15, ground := Ground.guard }], guard := some (15, true) }) rfl (fun K hK => ?_) AllReadyH.nil
  go_simp
  refine (refStep_any _ _ _ _ (by omega) (by omega)).mono ?_
  rintro e w2 ⟨rfl, hb2⟩
  obtain ⟨hc2, hf2⟩ := bcell hb2
  go_wp2_with fail
  refine hK.out _ _ ?_ (fun hHeld21 => ?_)
  · first | go_keep | (refine ⟨?_, ?_, ?_⟩ <;> (rw [hc2 _ _ s1]; go_keep)) | (refine ⟨?_, ?_, ?_⟩ <;> (rw [hc1 _ _ (by simp)]; go_keep))
  clear hK K hHeld
  have hHeld := hHeld21
  clear hHeld21
  try simp only [Act.put, List.setIfInBounds_toArray, List.set_cons_zero, List.set_cons_succ]
  refine wpAnyH_take (i := 22) (oi := { dst := some 27, op := Op.binOp BinOp.rem 3 (Operand.tmp 24) (Operand.tmp 26) 3, type := 3, pos := "ref.go:101", after := #[{ on := 19, ground := Ground.data }, { on := 21, ground := Ground.data }, { on := 15, ground := Ground.guard }], guard := some (15, true) }) (v := ?_) rfl (by kernel_rfl) (by kernel_rfl) (by kernel_rfl) (fun _ _ _ h => h) (Or.inl ⟨by rfl, ?_⟩) (by assumption) ?_
  rotate_left
  · (intro w hSw; (try dsimp only at hSw); go_simp; first | done | with_reducible rfl)
  try simp only [Act.put, List.setIfInBounds_toArray, List.set_cons_zero, List.set_cons_succ]
  refine wpAnyH_take (i := 23) (oi := { dst := some 28, op := Op.binOp BinOp.eql 3 (Operand.tmp 27) (Operand.const (Value.int IntKind.i64 0)) 3, type := 4, pos := "ref.go:101", after := #[{ on := 22, ground := Ground.data }, { on := 15, ground := Ground.guard }], guard := some (15, true) }) (v := ?_) rfl (by kernel_rfl) (by kernel_rfl) (by kernel_rfl) (fun _ _ _ h => h) (Or.inl ⟨by rfl, ?_⟩) (by assumption) ?_
  rotate_left
  · (intro w hSw; (try dsimp only at hSw); go_simp; first | done | with_reducible rfl)
  try simp only [Act.put, List.setIfInBounds_toArray, List.set_cons_zero, List.set_cons_succ]
  refine wpAnyH_take (i := 24) (oi := { dst := some 29, op := Op.pick (Operand.tmp 20) (Operand.tmp 28) (Operand.const (Value.bool false)), type := 4, pos := "ref.go:101", after := #[{ on := 15, ground := Ground.data }, { on := 23, ground := Ground.data }], guard := none }) (v := ?_) rfl (by kernel_rfl) (by kernel_rfl) (by kernel_rfl) (fun _ _ _ h => h) (Or.inl ⟨by rfl, ?_⟩) (by assumption) ?_
  rotate_left
  · (intro w hSw; (try dsimp only at hSw); go_simp; first | done | with_reducible rfl)
  try simp only [Act.put, List.setIfInBounds_toArray, List.set_cons_zero, List.set_cons_succ]
  refine wpAnyH_take (i := 25) (oi := { dst := some 4, op := Op.assign (Operand.tmp 29), type := 4, pos := "ref.go:101", after := #[{ on := 24, ground := Ground.data }, { on := 21, ground := Ground.chain }, { on := 0, ground := Ground.phase }, { on := 1, ground := Ground.phase }, { on := 2, ground := Ground.phase }, { on := 3, ground := Ground.phase }, { on := 4, ground := Ground.phase }, { on := 5, ground := Ground.phase }, { on := 6, ground := Ground.phase }, { on := 7, ground := Ground.phase }, { on := 8, ground := Ground.phase }, { on := 9, ground := Ground.phase }, { on := 10, ground := Ground.phase }, { on := 11, ground := Ground.phase }, { on := 12, ground := Ground.phase }, { on := 13, ground := Ground.phase }, { on := 14, ground := Ground.phase }, { on := 15, ground := Ground.phase }, { on := 16, ground := Ground.phase }, { on := 17, ground := Ground.phase }, { on := 18, ground := Ground.phase }, { on := 19, ground := Ground.phase }, { on := 20, ground := Ground.phase }, { on := 21, ground := Ground.phase }, { on := 22, ground := Ground.phase }, { on := 23, ground := Ground.phase }, { on := 24, ground := Ground.phase }], guard := none }) (v := ?_) rfl (by kernel_rfl) (by kernel_rfl) (by kernel_rfl) (fun _ _ _ h => h) (Or.inl ⟨by rfl, ?_⟩) (by assumption) ?_
  rotate_left
  · (intro w hSw; (try dsimp only at hSw); go_simp; first | done | with_reducible rfl)
  try simp only [Act.put, List.setIfInBounds_toArray, List.set_cons_zero, List.set_cons_succ]
  refine wpAnyH_done (by kernel_rfl) ?_ _
  have W1 : Below w.heap.size w w1 := ((Below.refl _ _).alloc (Nat.le_refl _) _).drew.trans (hb1.mono (by simp))
  have W2 := W1.trans (hb2.mono (by omega))
  clear hb1 hc1 hf1 hHeld k1 k2 hb2 hc2 hf2
  go_wp2
  go_ret
  exact ⟨rfl, W2⟩
theorem refHas_any (l h s n : Int) (w : World) (hl : I64 l) (hh : I64 h) (hs : I64 s) :
    Calls Try.prog 29 #[.agg #[.int .i64 l, .int .i64 h, .int .i64 s], .int .i64 n] w fun e w' => e = .returned (.bool (posB l h s n)) ∧ Below w.heap.size w w' := by
  by_cases hk : chk l h s = 0
  · by_cases hle : l ≤ h
    · by_cases hn : n < l ∨ h < n
      · have e : posB l h s n = false := by unfold posB; simp; omega
        rw [e]; exact refHas_out l h s n w hk hle hn
      · refine (refHas_in l h s n w hk (by omega) (by omega)).mono fun _ _ ⟨he, hb⟩ => ⟨?_, hb⟩
        have e : posB l h s n = ((n - l) % magA s == 0) := by
          have c1 : l ≤ n := by omega
          have c2 : n ≤ h := by omega
          unfold posB
          by_cases c : (n - l) % magA s = 0 <;> simp [c, hk, c1, c2]
        rw [he, e]
    · have e : posB l h s n = false := by unfold posB; simp; omega
      rw [e]; exact refHas_none l h s n w hl hh hs (by show siz l h s = 0; unfold siz; rw [if_neg (fun c => hle c.2)])
  · have e : posB l h s n = false := by unfold posB; simp [hk]
    rw [e]; exact refHas_none l h s n w hl hh hs (by show siz l h s = 0; unfold siz; rw [if_neg (fun c => hk c.1)])
set_option maxHeartbeats 800000 in
theorem refPos_no (l h s n : Int) (w : World) (hl : I64 l) (hh : I64 h) (hs : I64 s) (hp : posB l h s n = false) :
    Calls Try.prog 23 #[.agg #[.int .i64 l, .int .i64 h, .int .i64 s], .int .i64 n] w fun e w' => e = .returned (.tuple #[.int .i64 0, .bool false]) ∧ Below w.heap.size w w' := by
  go_enter Try.func23, Try.ntmps23
  go_wp2_with fail
  refine (refHas_any _ _ _ _ _ hl hh hs).mono ?_
  rintro e w1 ⟨rfl, hb1⟩
  obtain ⟨W1, s1, x0, x1, x2⟩ := box3 hb1
  clear hb1
  go_wp2
  go_ret2
  exact ⟨rfl, W1.out⟩
set_option maxHeartbeats 800000 in
theorem refPos_yes (l h s n : Int) (w : World) (hp : posB l h s n = true) :
    Calls Try.prog 23 #[.agg #[.int .i64 l, .int .i64 h, .int .i64 s], .int .i64 n] w fun e w' => e = .returned (.tuple #[.int .i64 (posN l h s n), .bool true]) ∧ Below w.heap.size w w' := by
  have HP := Lib.hid hp
  have hp2 := hp
  simp only [posB, decide_eq_true_eq] at hp2
  obtain ⟨hk, a1, a2, a3⟩ := hp2
  obtain ⟨b1, b2, b3, b4, b5, b6, b7, b8⟩ := chk_bounds hk
  have hm : ¬ magA s = 0 := by omega
  have k1 : IntKind.i64.wrap (n - l) = n - l := IntWalk.i64_in _ (by omega)
  have k2 : IntKind.i64.wrap (h - n) = h - n := IntWalk.i64_in _ (by omega)
  have k3 : IntKind.i64.wrap ((n - l).tdiv (magA s)) = (n - l) / magA s := IntWalk.i64_quo _ _ ⟨by omega, by omega, b7⟩
  have k4 : IntKind.i64.wrap ((h - n).tdiv (magA s)) = (h - n) / magA s := IntWalk.i64_quo _ _ ⟨by omega, by omega, b7⟩
  clear hk a3
  by_cases c4 : s < 0
  · have E := Lib.hid (show posN l h s n = (h - n) / magA s by unfold posN; rw [if_pos HP.out, if_pos c4])
    go_enter Try.func23, Try.ntmps23
    go_wp2_with fail
    refine (refHas_any _ _ _ _ _ ⟨by omega, by omega⟩ ⟨by omega, by omega⟩ ⟨by omega, by omega⟩).mono ?_
    rintro e w1 ⟨rfl, hb1⟩
    obtain ⟨W1, s1, x0, x1, x2⟩ := box3 hb1
    clear hb1
    go_wp2_with fail
    refine wp_region_held_drew (S := (fun w' => w'.cell? ⟨w.heap.size, 0, none⟩ = some (.int .i64 l) ∧ w'.cell? ⟨w.heap.size, 1, none⟩ = some (.int .i64 h) ∧ w'.cell? ⟨w.heap.size, 2, none⟩ = some (.int .i64 s))) (by kernel_rfl) ?_ (fun hHeld => ?_)
    · first | go_keep | (refine ⟨?_, ?_, ?_⟩ <;> (rw [hc2 _ _ s1]; go_keep))
    refine wpAnyH_take (i := 0) (oi := { dst := some 13, op := Op.fieldAddr 23 (Operand.tmp 2) 1, type := 0, pos := "ref.go:124", after := #[], guard := none }) (v := ?_) rfl (by kernel_rfl) (by kernel_rfl) (by kernel_rfl) (fun _ _ _ h => h) (Or.inl ⟨by rfl, ?_⟩) (by assumption) ?_
    rotate_left
    · (intro w hSw; (try dsimp only at hSw); go_simp; first | done | with_reducible rfl)
    try simp only [Act.put, List.setIfInBounds_toArray, List.set_cons_zero, List.set_cons_succ]
    refine wpAnyH_take (i := 1) (oi := { dst := some 14, op := Op.load 3 (Operand.tmp 13), type := 3, pos := "ref.go:124", after := #[{ on := 0, ground := Ground.data }], guard := none }) (v := ?_) rfl (by kernel_rfl) (by kernel_rfl) (by kernel_rfl) (fun _ _ _ h => h) (Or.inl ⟨by rfl, ?_⟩) (by assumption) ?_
    rotate_left
    · (intro w hSw; (try dsimp only at hSw); go_simp; first | done | with_reducible rfl)
    try simp only [Act.put, List.setIfInBounds_toArray, List.set_cons_zero, List.set_cons_succ]
    refine wpAnyH_take (i := 2) (oi := { dst := some 15, op := Op.move (Operand.tmp 1), type := 3, pos := "ref.go:124", after := #[], guard := none }) (v := ?_) rfl (by kernel_rfl) (by kernel_rfl) (by kernel_rfl) (fun _ _ _ h => h) (Or.inl ⟨by rfl, ?_⟩) (by assumption) ?_
    rotate_left
    · (intro w hSw; (try dsimp only at hSw); go_simp; first | done | with_reducible rfl)
    try simp only [Act.put, List.setIfInBounds_toArray, List.set_cons_zero, List.set_cons_succ]
    refine wpAnyH_take (i := 3) (oi := { dst := some 16, op := Op.binOp BinOp.sub 3 (Operand.tmp 14) (Operand.tmp 15) 3, type := 3, pos := "ref.go:124", after := #[{ on := 1, ground := Ground.data }, { on := 2, ground := Ground.data }], guard := none }) (v := ?_) rfl (by kernel_rfl) (by kernel_rfl) (by kernel_rfl) (fun _ _ _ h => h) (Or.inl ⟨by rfl, ?_⟩) (by assumption) ?_
    rotate_left
    · (intro w hSw; (try dsimp only at hSw); go_simp; first | done | with_reducible rfl)
    try simp only [Act.put, List.setIfInBounds_toArray, List.set_cons_zero, List.set_cons_succ]
    refine wpAnyH_take (i := 4) (oi := { dst := some 17, op := Op.load 23 (Operand.tmp 2), type := 23, pos := "ref.go:124", after := #[], guard := none }) (v := ?_) rfl (by kernel_rfl) (by kernel_rfl) (by kernel_rfl) (fun _ _ _ h => h) (Or.inl ⟨by rfl, ?_⟩) (by assumption) ?_
    rotate_left
    · (intro w hSw; (try dsimp only at hSw); go_simp; first | done | with_reducible rfl)
    try simp only [Act.put, List.setIfInBounds_toArray, List.set_cons_zero, List.set_cons_succ]
    refine wpAnyH_ready (rs := [5]) (by kernel_rfl) (by simp) ?_
    refine AllReadyH.cons (o := { dst := some 18, op := Op.call { callee := Callee.value (Operand.func 112), args := #[Operand.tmp 17], argTypes := #[23] }, type := 3, pos := "ref.go:124", after := #[{ on := 4, ground := Ground.data }], guard := none }) rfl (fun K hK => ?_) AllReadyH.nil
    go_simp
    refine (refStep_any _ _ _ _ (by omega) (by omega)).mono ?_
    rintro e w2 ⟨rfl, hb2⟩
    obtain ⟨hc2, hf2⟩ := bcell hb2
    go_wp2_with fail
    refine hK.out _ _ ?_ (fun hHeld5 => ?_)
    · first | go_keep | (refine ⟨?_, ?_, ?_⟩ <;> (rw [hc2 _ _ s1]; go_keep))
    clear hK K hHeld
    have hHeld := hHeld5
    clear hHeld5
    try simp only [Act.put, List.setIfInBounds_toArray, List.set_cons_zero, List.set_cons_succ]
    refine wpAnyH_take (i := 6) (oi := { dst := some 19, op := Op.binOp BinOp.quo 3 (Operand.tmp 16) (Operand.tmp 18) 3, type := 3, pos := "ref.go:124", after := #[{ on := 3, ground := Ground.data }, { on := 5, ground := Ground.data }], guard := none }) (v := ?_) rfl (by kernel_rfl) (by kernel_rfl) (by kernel_rfl) (fun _ _ _ h => h) (Or.inl ⟨by rfl, ?_⟩) (by assumption) ?_
    rotate_left
    · (intro w hSw; (try dsimp only at hSw); go_simp; first | done | with_reducible rfl)
    try simp only [Act.put, List.setIfInBounds_toArray, List.set_cons_zero, List.set_cons_succ]
    refine wpAnyH_take (i := 7) (oi := { dst := some 4, op := Op.assign (Operand.tmp 19), type := 3, pos := "ref.go:124", after := #[{ on := 6, ground := Ground.data }, { on := 5, ground := Ground.chain }, { on := 0, ground := Ground.phase }, { on := 1, ground := Ground.phase }, { on := 2, ground := Ground.phase }, { on := 3, ground := Ground.phase }, { on := 4, ground := Ground.phase }, { on := 5, ground := Ground.phase }, { on := 6, ground := Ground.phase }], guard := none }) (v := ?_) rfl (by kernel_rfl) (by kernel_rfl) (by kernel_rfl) (fun _ _ _ h => h) (Or.inl ⟨by rfl, ?_⟩) (by assumption) ?_
    rotate_left
    · (intro w hSw; (try dsimp only at hSw); go_simp; first | done | with_reducible rfl)
    try simp only [Act.put, List.setIfInBounds_toArray, List.set_cons_zero, List.set_cons_succ]
    refine wpAnyH_take (i := 8) (oi := { dst := some 5, op := Op.assign (Operand.const (Value.bool true)), type := 4, pos := "ref.go:124", after := #[{ on := 7, ground := Ground.chain }, { on := 0, ground := Ground.phase }, { on := 1, ground := Ground.phase }, { on := 2, ground := Ground.phase }, { on := 3, ground := Ground.phase }, { on := 4, ground := Ground.phase }, { on := 5, ground := Ground.phase }, { on := 6, ground := Ground.phase }, { on := 7, ground := Ground.phase }], guard := none }) (v := ?_) rfl (by kernel_rfl) (by kernel_rfl) (by kernel_rfl) (fun _ _ _ h => h) (Or.inl ⟨by rfl, ?_⟩) (by assumption) ?_
    rotate_left
    · (intro w hSw; (try dsimp only at hSw); go_simp; first | done | with_reducible rfl)
    try simp only [Act.put, List.setIfInBounds_toArray, List.set_cons_zero, List.set_cons_succ]
    refine wpAnyH_done (by kernel_rfl) ?_ _
    have W2 := W1.out.drew.trans (hb2.mono (by simp; omega))
    clear hHeld k1 k2 k3 k4 hb2 hc2 hf2
    go_wp2
    go_ret2
    exact ⟨by rw [E.out]; rfl, W2⟩
  · have E := Lib.hid (show posN l h s n = (n - l) / magA s by unfold posN; rw [if_pos HP.out, if_neg c4])
    go_enter Try.func23, Try.ntmps23
    go_wp2_with fail
    refine (refHas_any _ _ _ _ _ ⟨by omega, by omega⟩ ⟨by omega, by omega⟩ ⟨by omega, by omega⟩).mono ?_
    rintro e w1 ⟨rfl, hb1⟩
    obtain ⟨W1, s1, x0, x1, x2⟩ := box3 hb1
    clear hb1
    go_wp2_with fail
    refine wp_region_held_drew (S := (fun w' => w'.cell? ⟨w.heap.size, 0, none⟩ = some (.int .i64 l) ∧ w'.cell? ⟨w.heap.size, 1, none⟩ = some (.int .i64 h) ∧ w'.cell? ⟨w.heap.size, 2, none⟩ = some (.int .i64 s))) (by kernel_rfl) ?_ (fun hHeld => ?_)
    · first | go_keep | (refine ⟨?_, ?_, ?_⟩ <;> (rw [hc2 _ _ s1]; go_keep))
    refine wpAnyH_take (i := 0) (oi := { dst := some 20, op := Op.move (Operand.tmp 1), type := 3, pos := "ref.go:126", after := #[], guard := none }) (v := ?_) rfl (by kernel_rfl) (by kernel_rfl) (by kernel_rfl) (fun _ _ _ h => h) (Or.inl ⟨by rfl, ?_⟩) (by assumption) ?_
    rotate_left
    · (intro w hSw; (try dsimp only at hSw); go_simp; first | done | with_reducible rfl)
    try simp only [Act.put, List.setIfInBounds_toArray, List.set_cons_zero, List.set_cons_succ]
    refine wpAnyH_take (i := 1) (oi := { dst := some 21, op := Op.fieldAddr 23 (Operand.tmp 2) 0, type := 0, pos := "ref.go:126", after := #[], guard := none }) (v := ?_) rfl (by kernel_rfl) (by kernel_rfl) (by kernel_rfl) (fun _ _ _ h => h) (Or.inl ⟨by rfl, ?_⟩) (by assumption) ?_
    rotate_left
    · (intro w hSw; (try dsimp only at hSw); go_simp; first | done | with_reducible rfl)
    try simp only [Act.put, List.setIfInBounds_toArray, List.set_cons_zero, List.set_cons_succ]
    refine wpAnyH_take (i := 2) (oi := { dst := some 22, op := Op.load 3 (Operand.tmp 21), type := 3, pos := "ref.go:126", after := #[{ on := 1, ground := Ground.data }], guard := none }) (v := ?_) rfl (by kernel_rfl) (by kernel_rfl) (by kernel_rfl) (fun _ _ _ h => h) (Or.inl ⟨by rfl, ?_⟩) (by assumption) ?_
    rotate_left
    · (intro w hSw; (try dsimp only at hSw); go_simp; first | done | with_reducible rfl)
    try simp only [Act.put, List.setIfInBounds_toArray, List.set_cons_zero, List.set_cons_succ]
    refine wpAnyH_take (i := 3) (oi := { dst := some 23, op := Op.binOp BinOp.sub 3 (Operand.tmp 20) (Operand.tmp 22) 3, type := 3, pos := "ref.go:126", after := #[{ on := 0, ground := Ground.data }, { on := 2, ground := Ground.data }], guard := none }) (v := ?_) rfl (by kernel_rfl) (by kernel_rfl) (by kernel_rfl) (fun _ _ _ h => h) (Or.inl ⟨by rfl, ?_⟩) (by assumption) ?_
    rotate_left
    · (intro w hSw; (try dsimp only at hSw); go_simp; first | done | with_reducible rfl)
    try simp only [Act.put, List.setIfInBounds_toArray, List.set_cons_zero, List.set_cons_succ]
    refine wpAnyH_take (i := 4) (oi := { dst := some 24, op := Op.load 23 (Operand.tmp 2), type := 23, pos := "ref.go:126", after := #[], guard := none }) (v := ?_) rfl (by kernel_rfl) (by kernel_rfl) (by kernel_rfl) (fun _ _ _ h => h) (Or.inl ⟨by rfl, ?_⟩) (by assumption) ?_
    rotate_left
    · (intro w hSw; (try dsimp only at hSw); go_simp; first | done | with_reducible rfl)
    try simp only [Act.put, List.setIfInBounds_toArray, List.set_cons_zero, List.set_cons_succ]
    refine wpAnyH_ready (rs := [5]) (by kernel_rfl) (by simp) ?_
    refine AllReadyH.cons (o := { dst := some 25, op := Op.call { callee := Callee.value (Operand.func 112), args := #[Operand.tmp 24], argTypes := #[23] }, type := 3, pos := "ref.go:126", after := #[{ on := 4, ground := Ground.data }], guard := none }) rfl (fun K hK => ?_) AllReadyH.nil
    go_simp
    refine (refStep_any _ _ _ _ (by omega) (by omega)).mono ?_
    rintro e w2 ⟨rfl, hb2⟩
    obtain ⟨hc2, hf2⟩ := bcell hb2
    go_wp2_with fail
    refine hK.out _ _ ?_ (fun hHeld5 => ?_)
    · first | go_keep | (refine ⟨?_, ?_, ?_⟩ <;> (rw [hc2 _ _ s1]; go_keep))
    clear hK K hHeld
    have hHeld := hHeld5
    clear hHeld5
    try simp only [Act.put, List.setIfInBounds_toArray, List.set_cons_zero, List.set_cons_succ]
    refine wpAnyH_take (i := 6) (oi := { dst := some 26, op := Op.binOp BinOp.quo 3 (Operand.tmp 23) (Operand.tmp 25) 3, type := 3, pos := "ref.go:126", after := #[{ on := 3, ground := Ground.data }, { on := 5, ground := Ground.data }], guard := none }) (v := ?_) rfl (by kernel_rfl) (by kernel_rfl) (by kernel_rfl) (fun _ _ _ h => h) (Or.inl ⟨by rfl, ?_⟩) (by assumption) ?_
    rotate_left
    · (intro w hSw; (try dsimp only at hSw); go_simp; first | done | with_reducible rfl)
    try simp only [Act.put, List.setIfInBounds_toArray, List.set_cons_zero, List.set_cons_succ]
    refine wpAnyH_take (i := 7) (oi := { dst := some 4, op := Op.assign (Operand.tmp 26), type := 3, pos := "ref.go:126", after := #[{ on := 6, ground := Ground.data }, { on := 5, ground := Ground.chain }, { on := 0, ground := Ground.phase }, { on := 1, ground := Ground.phase }, { on := 2, ground := Ground.phase }, { on := 3, ground := Ground.phase }, { on := 4, ground := Ground.phase }, { on := 5, ground := Ground.phase }, { on := 6, ground := Ground.phase }], guard := none }) (v := ?_) rfl (by kernel_rfl) (by kernel_rfl) (by kernel_rfl) (fun _ _ _ h => h) (Or.inl ⟨by rfl, ?_⟩) (by assumption) ?_
    rotate_left
    · (intro w hSw; (try dsimp only at hSw); go_simp; first | done | with_reducible rfl)
    try simp only [Act.put, List.setIfInBounds_toArray, List.set_cons_zero, List.set_cons_succ]
    refine wpAnyH_take (i := 8) (oi := { dst := some 5, op := Op.assign (Operand.const (Value.bool true)), type := 4, pos := "ref.go:126", after := #[{ on := 7, ground := Ground.chain }, { on := 0, ground := Ground.phase }, { on := 1, ground := Ground.phase }, { on := 2, ground := Ground.phase }, { on := 3, ground := Ground.phase }, { on := 4, ground := Ground.phase }, { on := 5, ground := Ground.phase }, { on := 6, ground := Ground.phase }, { on := 7, ground := Ground.phase }], guard := none }) (v := ?_) rfl (by kernel_rfl) (by kernel_rfl) (by kernel_rfl) (fun _ _ _ h => h) (Or.inl ⟨by rfl, ?_⟩) (by assumption) ?_
    rotate_left
    · (intro w hSw; (try dsimp only at hSw); go_simp; first | done | with_reducible rfl)
    try simp only [Act.put, List.setIfInBounds_toArray, List.set_cons_zero, List.set_cons_succ]
    refine wpAnyH_done (by kernel_rfl) ?_ _
    have W2 := W1.out.drew.trans (hb2.mono (by simp; omega))
    clear hHeld k1 k2 k3 k4 hb2 hc2 hf2
    go_wp2
    go_ret2
    exact ⟨by rw [E.out]; rfl, W2⟩
theorem refPosition_any (l h s n : Int) (w : World) (hl : I64 l) (hh : I64 h) (hs : I64 s) :
    Calls Try.prog 23 #[.agg #[.int .i64 l, .int .i64 h, .int .i64 s], .int .i64 n] w fun e w' => e = .returned (.tuple #[.int .i64 (posN l h s n), .bool (posB l h s n)]) ∧ Below w.heap.size w w' := by
  cases hp : posB l h s n
  · exact (refPos_no l h s n w hl hh hs hp).mono fun _ _ ⟨he, hb⟩ => ⟨by rw [he]; unfold posN; rw [hp]; rfl, hb⟩
  · exact (refPos_yes l h s n w hp).mono fun _ _ ⟨he, hb⟩ => ⟨he, hb⟩
end Go.Proofs.Ytabgphlpdoockaa
namespace Go.Proofs.Ytabgphlpdoockaa
open Go.RowKit
set_option maxHeartbeats 400000 in
theorem refNth_bad (l h s k : Int) (w : World) (hl : I64 l) (hh : I64 h) (hs : I64 s) (hk : ¬ chk l h s = 0) :
    Calls Try.prog 21 #[.agg #[.int .i64 l, .int .i64 h, .int .i64 s], .int .i64 k] w fun e w' => e = .returned (.tuple #[.int .i64 0, .int .i64 (chk l h s)]) ∧ Below w.heap.size w w' := by
  have hn : (chk l h s != 0) = true := by simp [hk]
  clear hk
  go_enter Try.func21, Try.ntmps21
  go_wp2_with fail
  refine (refCheck_any l h s _ hl hh hs).mono ?_
  rintro e w1 ⟨rfl, hb1⟩
  obtain ⟨W1, s1, x0, x1, x2⟩ := box3 hb1
  clear hb1
  go_wp2
  go_ret2
  exact ⟨rfl, W1.out⟩
set_option maxHeartbeats 400000 in
theorem refNth_neg (l h s k : Int) (w : World) (hk : Hid (chk l h s = 0)) (hn : k < 0) :
    Calls Try.prog 21 #[.agg #[.int .i64 l, .int .i64 h, .int .i64 s], .int .i64 k] w fun e w' => e = .returned (.tuple #[.int .i64 0, .int .i64 4]) ∧ Below w.heap.size w w' := by
  go_enter Try.func21, Try.ntmps21
  go_wp2_with fail
  refine (refCheck_ok l h s _ hk).mono ?_
  rintro e w1 ⟨rfl, hb1⟩
  obtain ⟨W1, s1, x0, x1, x2⟩ := box3 hb1
  clear hb1
  go_wp2
  go_ret2
  exact ⟨rfl, W1.out⟩
set_option maxHeartbeats 400000 in
theorem refNth_over (l h s k : Int) (w : World) (hk : Hid (chk l h s = 0)) (h0 : 0 ≤ k) (h1 : siz l h s ≤ k) :
    Calls Try.prog 21 #[.agg #[.int .i64 l, .int .i64 h, .int .i64 s], .int .i64 k] w fun e w' => e = .returned (.tuple #[.int .i64 0, .int .i64 4]) ∧ Below w.heap.size w w' := by
  obtain ⟨b1, b2, b3, b4, b5, b6, b7, b8⟩ := chk_bounds hk.out
  go_enter Try.func21, Try.ntmps21
  go_wp2_with fail
  refine (refCheck_ok l h s _ hk).mono ?_
  rintro e w1 ⟨rfl, hb1⟩
  obtain ⟨W1, s1, x0, x1, x2⟩ := box3 hb1
  clear hb1
  go_wp2_with fail
  refine (refSize_any _ _ _ _ ⟨by omega, by omega⟩ ⟨by omega, by omega⟩ ⟨by omega, by omega⟩).mono ?_
  rintro e w2 ⟨rfl, hb2⟩
  have W2 := hidTrans W1 hb2 (by omega)
  clear hb2 W1 x0 x1 x2 s1
  go_wp2
  go_ret2
  exact ⟨rfl, W2.out⟩
set_option maxHeartbeats 400000 in
theorem refNth_good (l h s k : Int) (w : World) (hk : Hid (chk l h s = 0)) (hle : l ≤ h) (h0 : 0 ≤ k) (h1 : k < siz l h s) :
    Calls Try.prog 21 #[.agg #[.int .i64 l, .int .i64 h, .int .i64 s], .int .i64 k] w fun e w' => e = .returned (.tuple #[.int .i64 (if s < 0 then h - k * magA s else l + k * magA s), .int .i64 0]) ∧ Below w.heap.size w w' := by
  obtain ⟨b1, b2, b3, b4, b5, b6, b7, b8⟩ := chk_bounds hk.out
  have hm := mul_bd k (h - l) (magA s) h0 (by rw [← siz_ok hk.out hle]; exact h1) b7
  have h2 : ¬ siz l h s ≤ k := by omega
  by_cases c4 : s < 0
  · rw [if_pos c4]
    have e1 : k * magA s = -(k * s) := by rw [magA_neg c4, Int.mul_neg]
    rw [e1] at hm ⊢
    have E := Lib.hid (show h + k * s = h - -(k * s) by omega)
    clear e1
    go_enter Try.func21, Try.ntmps21
    go_wp2_with fail
    refine (refCheck_ok l h s _ hk).mono ?_
    rintro e w1 ⟨rfl, hb1⟩
    obtain ⟨W1, s1, x0, x1, x2⟩ := box3 hb1
    clear hb1
    go_wp2_with fail
    refine (refSize_any _ _ _ _ ⟨by omega, by omega⟩ ⟨by omega, by omega⟩ ⟨by omega, by omega⟩).mono ?_
    rintro e w2 ⟨rfl, hb2⟩
    have W2 := hidTrans W1 hb2 (by omega)
    obtain ⟨s2, y0, y1, y2⟩ := keep3 hb2 s1 x0 x1 x2
    clear hb2 W1 x0 x1 x2 s1
    go_wp2
    go_ret2
    exact ⟨by rw [← E.out]; rfl, W2.out⟩
  · rw [if_neg c4]
    have e1 : magA s = s := magA_pos (by omega)
    rw [e1] at hm ⊢
    clear e1
    go_enter Try.func21, Try.ntmps21
    go_wp2_with fail
    refine (refCheck_ok l h s _ hk).mono ?_
    rintro e w1 ⟨rfl, hb1⟩
    obtain ⟨W1, s1, x0, x1, x2⟩ := box3 hb1
    clear hb1
    go_wp2_with fail
    refine (refSize_any _ _ _ _ ⟨by omega, by omega⟩ ⟨by omega, by omega⟩ ⟨by omega, by omega⟩).mono ?_
    rintro e w2 ⟨rfl, hb2⟩
    have W2 := hidTrans W1 hb2 (by omega)
    obtain ⟨s2, y0, y1, y2⟩ := keep3 hb2 s1 x0 x1 x2
    clear hb2 W1 x0 x1 x2 s1
    go_wp2
    go_ret2
    exact ⟨rfl, W2.out⟩
theorem refNth_any (l h s k : Int) (w : World) (hl : I64 l) (hh : I64 h) (hs : I64 s) :
    Calls Try.prog 21 #[.agg #[.int .i64 l, .int .i64 h, .int .i64 s], .int .i64 k] w fun e w' => e = .returned (.tuple #[.int .i64 (nthN l h s k), .int .i64 (nthE l h s k)]) ∧ Below w.heap.size w w' := by
  by_cases hk : chk l h s = 0
  · by_cases h0 : 0 ≤ k
    · by_cases h1 : k < siz l h s
      · have hle : l ≤ h := by
          by_cases hle : l ≤ h
          · exact hle
          · have : siz l h s = 0 := if_neg (fun c => hle c.2)
            omega
        have e1 : nthE l h s k = 0 := by unfold nthE; rw [if_pos hk, if_pos ⟨h0, h1⟩]
        exact (refNth_good l h s k w hk hle h0 h1).mono fun _ _ ⟨he, hb⟩ => ⟨by rw [he]; unfold nthN; rw [e1]; simp, hb⟩
      · have e1 : nthE l h s k = 4 := by unfold nthE; rw [if_pos hk, if_neg (fun c => h1 c.2)]
        exact (refNth_over l h s k w hk h0 (by omega)).mono fun _ _ ⟨he, hb⟩ => ⟨by rw [he]; unfold nthN; rw [e1]; simp, hb⟩
    · have e1 : nthE l h s k = 4 := by unfold nthE; rw [if_pos hk, if_neg (fun c => h0 c.1)]
      exact (refNth_neg l h s k w hk (by omega)).mono fun _ _ ⟨he, hb⟩ => ⟨by rw [he]; unfold nthN; rw [e1]; simp, hb⟩
  · have e1 : nthE l h s k = chk l h s := if_neg hk
    exact (refNth_bad l h s k w hl hh hs hk).mono fun _ _ ⟨he, hb⟩ => ⟨by rw [he]; unfold nthN; rw [e1]; simp [hk], hb⟩
theorem ediv_mul (a m : Int) : a / m * m = a - a % m := by
  have := Int.mul_ediv_add_emod a m
  rw [Int.mul_comm] at this; omega
end Go.Proofs.Ytabgphlpdoockaa
namespace Go.Proofs.Ytabgphlpdoockaa
open Go.RowKit
def byDn (dn : Bool) (n : Int) : Bool := !dn == decide (n < 0)
def byLo (l h m : Int) (dn : Bool) (n : Int) : Int := if byDn dn n = true then l + (h - l) % (m * magA n) else l
def byHi (l h m : Int) (dn : Bool) (n : Int) : Int := if byDn dn n = true then h else h - (h - l) % (m * magA n)
theorem mul_le (a b A B : Int) (h0 : 1 ≤ a) (h1 : a ≤ A) (h2 : 1 ≤ b) (h3 : b ≤ B) : 1 ≤ a * b ∧ a * b ≤ A * B := by
  have e1 : 1 * 1 ≤ a * b := Int.mul_le_mul h0 h2 (by omega) (by omega)
  have e2 : a * b ≤ A * B := Int.mul_le_mul h1 h3 (by omega) (by omega)
  omega
set_option maxHeartbeats 1600000 in
theorem byClo (l h m n : Int) (dn : Bool) (b o : Nat) (w : World) (hc : w.cell? ⟨b, o, none⟩ = some (.int .i64 n)) (h0 : -1000000 ≤ l) (h1 : l ≤ h) (h2 : h ≤ 1000000) (h3 : 1 ≤ m) (h4 : m ≤ 2000000) (h5 : ¬ n = 0) (h6 : -1000000 ≤ n) (h7 : n ≤ 1000000) :
    Calls Try.prog 118 #[.agg #[.int .i64 l, .int .i64 h, .int .i64 m, .bool dn], .pointer (some ⟨b, o, none⟩)] w fun e w' => e = .returned (.agg #[.int .i64 (byLo l h m dn n), .int .i64 (byHi l h m dn n), .int .i64 (m * magA n), .bool (byDn dn n)]) ∧ Below w.heap.size w w' := by
  have hb : b < w.heap.size := World.block_lt_of_cell? w _ hc
  have hne : b ≠ w.heap.size := by omega
  have hne1 : b ≠ w.heap.size + 1 := by omega
  have m1 : 1 ≤ magA n := by unfold magA; split <;> omega
  have m2 : magA n ≤ 1000000 := by unfold magA; split <;> omega
  have p := mul_le m (magA n) 2000000 1000000 h3 h4 m1 m2
  have r := rem_bd (h - l) (m * magA n) (by omega) p.1
  have k1 : IntKind.i64.wrap (magA n) = magA n := IntWalk.i64_in _ (by omega)
  have k2 : IntKind.i64.wrap (m * magA n) = m * magA n := IntWalk.i64_in _ (by omega)
  have hd : byDn dn n = (!dn == decide (n < 0)) := rfl
  rcases hq : byDn dn n with _ | _
  · rw [hq] at hd
    have E := Lib.hid (show byLo l h m dn n = l ∧ byHi l h m dn n = h - (h - l) % (m * magA n) from ⟨by unfold byLo; rw [hq]; rfl, by unfold byHi; rw [hq]; rfl⟩)
    rw [E.out.1, E.out.2]
    have hd' := hd.symm
    clear hq hd
    go_enter Try.func118, Try.ntmps118
    go_wp2_with fail
    refine wp_region_held_drew (S := (fun w' => w'.cell? ⟨w.heap.size, 0, none⟩ = some (.int .i64 l) ∧ w'.cell? ⟨w.heap.size, 1, none⟩ = some (.int .i64 h) ∧ w'.cell? ⟨w.heap.size, 2, none⟩ = some (.int .i64 m) ∧ w'.cell? ⟨b, o, none⟩ = some (.int .i64 n))) (by kernel_rfl) ?_ (fun hHeld => ?_)
    · first | go_keep
    refine wpAnyH_take (i := 0) (oi := { dst := some 9, op := Op.fieldAddr 102 (Operand.tmp 2) 2, type := 0, pos := "span.go:124", after := #[], guard := none }) (v := ?_) rfl (by kernel_rfl) (by kernel_rfl) (by kernel_rfl) (fun _ _ _ h => h) (Or.inl ⟨by rfl, ?_⟩) (by assumption) ?_
    rotate_left
    · (intro w hSw; (try dsimp only at hSw); go_simp; first | done | with_reducible rfl)
    try simp only [Act.put, List.setIfInBounds_toArray, List.set_cons_zero, List.set_cons_succ]
    refine wpAnyH_take (i := 1) (oi := { dst := some 10, op := Op.load 3 (Operand.tmp 9), type := 3, pos := "span.go:124", after := #[{ on := 0, ground := Ground.data }], guard := none }) (v := ?_) rfl (by kernel_rfl) (by kernel_rfl) (by kernel_rfl) (fun _ _ _ h => h) (Or.inl ⟨by rfl, ?_⟩) (by assumption) ?_
    rotate_left
    · (intro w hSw; (try dsimp only at hSw); go_simp; first | done | with_reducible rfl)
    try simp only [Act.put, List.setIfInBounds_toArray, List.set_cons_zero, List.set_cons_succ]
    refine wpAnyH_take (i := 2) (oi := { dst := some 11, op := Op.load 3 (Operand.tmp 1), type := 3, pos := "span.go:124", after := #[], guard := none }) (v := ?_) rfl (by kernel_rfl) (by kernel_rfl) (by kernel_rfl) (fun _ _ _ h => h) (Or.inl ⟨by rfl, ?_⟩) (by assumption) ?_
    rotate_left
    · (intro w hSw; (try dsimp only at hSw); go_simp; first | done | with_reducible rfl)
    try simp only [Act.put, List.setIfInBounds_toArray, List.set_cons_zero, List.set_cons_succ]
    refine wpAnyH_ready (rs := [3]) (by kernel_rfl) (by simp) ?_
    refine AllReadyH.cons (o := { dst := some 12, op := Op.call { callee := Callee.value (Operand.func 104), args := #[Operand.tmp 11], argTypes := #[3] }, type := 99, pos := "span.go:124", after := #[{ on := 2, ground := Ground.data }], guard := none }) rfl (fun K hK => ?_) AllReadyH.nil
    go_simp
    refine (magnitude_any _ _ (by omega) (by omega)).mono ?_
    rintro e w' ⟨rfl, rfl⟩
    go_wp2_with fail
    refine hK.out _ _ ?_ (fun hHeld3 => ?_)
    · first | go_keep
    clear hK K hHeld
    have hHeld := hHeld3
    clear hHeld3
    try simp only [Act.put, List.setIfInBounds_toArray, List.set_cons_zero, List.set_cons_succ]
    refine wpAnyH_take (i := 4) (oi := { dst := some 13, op := Op.convert 99 3 (Operand.tmp 12), type := 3, pos := "span.go:124", after := #[{ on := 3, ground := Ground.data }], guard := none }) (v := ?_) rfl (by kernel_rfl) (by kernel_rfl) (by kernel_rfl) (fun _ _ _ h => h) (Or.inl ⟨by rfl, ?_⟩) (by assumption) ?_
    rotate_left
    · (intro w hSw; (try dsimp only at hSw); go_simp; first | done | with_reducible rfl)
    try simp only [Act.put, List.setIfInBounds_toArray, List.set_cons_zero, List.set_cons_succ]
    refine wpAnyH_take (i := 5) (oi := { dst := some 14, op := Op.binOp BinOp.mul 3 (Operand.tmp 10) (Operand.tmp 13) 3, type := 3, pos := "span.go:124", after := #[{ on := 1, ground := Ground.data }, { on := 4, ground := Ground.data }], guard := none }) (v := ?_) rfl (by kernel_rfl) (by kernel_rfl) (by kernel_rfl) (fun _ _ _ h => h) (Or.inl ⟨by rfl, ?_⟩) (by assumption) ?_
    rotate_left
    · (intro w hSw; (try dsimp only at hSw); go_simp; first | done | with_reducible rfl)
    try simp only [Act.put, List.setIfInBounds_toArray, List.set_cons_zero, List.set_cons_succ]
    refine wpAnyH_take (i := 6) (oi := { dst := some 5, op := Op.assign (Operand.tmp 14), type := 3, pos := "span.go:124", after := #[{ on := 5, ground := Ground.data }, { on := 3, ground := Ground.chain }, { on := 0, ground := Ground.phase }, { on := 1, ground := Ground.phase }, { on := 2, ground := Ground.phase }, { on := 3, ground := Ground.phase }, { on := 4, ground := Ground.phase }, { on := 5, ground := Ground.phase }], guard := none }) (v := ?_) rfl (by kernel_rfl) (by kernel_rfl) (by kernel_rfl) (fun _ _ _ h => h) (Or.inl ⟨by rfl, ?_⟩) (by assumption) ?_
    rotate_left
    · (intro w hSw; (try dsimp only at hSw); go_simp; first | done | with_reducible rfl)
    try simp only [Act.put, List.setIfInBounds_toArray, List.set_cons_zero, List.set_cons_succ]
    refine wpAnyH_done (by kernel_rfl) ?_ _
    clear k1 k2 hHeld
    go_wp2
    refine bodyPost_ret (v := .agg #[.int .i64 l, .int .i64 (h - (h - l) % (m * magA n)), .int .i64 (m * magA n), .bool false]) (by simp [results, Try.results118, go_sem, *]) rfl ⟨rfl, ?_⟩
    repeat (first | exact Below.refl _ _ | refine Below.alloc ?_ (by simp; try omega) _ | refine Below.setCell ?_ (by simp; try omega) _ | refine Below.drew ?_)
  · rw [hq] at hd
    have E := Lib.hid (show byLo l h m dn n = l + (h - l) % (m * magA n) ∧ byHi l h m dn n = h from ⟨by unfold byLo; rw [hq]; rfl, by unfold byHi; rw [hq]; rfl⟩)
    rw [E.out.1, E.out.2]
    have hd' := hd.symm
    clear hq hd
    go_enter Try.func118, Try.ntmps118
    go_wp2_with fail
    refine wp_region_held_drew (S := (fun w' => w'.cell? ⟨w.heap.size, 0, none⟩ = some (.int .i64 l) ∧ w'.cell? ⟨w.heap.size, 1, none⟩ = some (.int .i64 h) ∧ w'.cell? ⟨w.heap.size, 2, none⟩ = some (.int .i64 m) ∧ w'.cell? ⟨b, o, none⟩ = some (.int .i64 n))) (by kernel_rfl) ?_ (fun hHeld => ?_)
    · first | go_keep
    refine wpAnyH_take (i := 0) (oi := { dst := some 9, op := Op.fieldAddr 102 (Operand.tmp 2) 2, type := 0, pos := "span.go:124", after := #[], guard := none }) (v := ?_) rfl (by kernel_rfl) (by kernel_rfl) (by kernel_rfl) (fun _ _ _ h => h) (Or.inl ⟨by rfl, ?_⟩) (by assumption) ?_
    rotate_left
    · (intro w hSw; (try dsimp only at hSw); go_simp; first | done | with_reducible rfl)
    try simp only [Act.put, List.setIfInBounds_toArray, List.set_cons_zero, List.set_cons_succ]
    refine wpAnyH_take (i := 1) (oi := { dst := some 10, op := Op.load 3 (Operand.tmp 9), type := 3, pos := "span.go:124", after := #[{ on := 0, ground := Ground.data }], guard := none }) (v := ?_) rfl (by kernel_rfl) (by kernel_rfl) (by kernel_rfl) (fun _ _ _ h => h) (Or.inl ⟨by rfl, ?_⟩) (by assumption) ?_
    rotate_left
    · (intro w hSw; (try dsimp only at hSw); go_simp; first | done | with_reducible rfl)
    try simp only [Act.put, List.setIfInBounds_toArray, List.set_cons_zero, List.set_cons_succ]
    refine wpAnyH_take (i := 2) (oi := { dst := some 11, op := Op.load 3 (Operand.tmp 1), type := 3, pos := "span.go:124", after := #[], guard := none }) (v := ?_) rfl (by kernel_rfl) (by kernel_rfl) (by kernel_rfl) (fun _ _ _ h => h) (Or.inl ⟨by rfl, ?_⟩) (by assumption) ?_
    rotate_left
    · (intro w hSw; (try dsimp only at hSw); go_simp; first | done | with_reducible rfl)
    try simp only [Act.put, List.setIfInBounds_toArray, List.set_cons_zero, List.set_cons_succ]
    refine wpAnyH_ready (rs := [3]) (by kernel_rfl) (by simp) ?_
    refine AllReadyH.cons (o := { dst := some 12, op := Op.call { callee := Callee.value (Operand.func 104), args := #[Operand.tmp 11], argTypes := #[3] }, type := 99, pos := "span.go:124", after := #[{ on := 2, ground := Ground.data }], guard := none }) rfl (fun K hK => ?_) AllReadyH.nil
    go_simp
    refine (magnitude_any _ _ (by omega) (by omega)).mono ?_
    rintro e w' ⟨rfl, rfl⟩
    go_wp2_with fail
    refine hK.out _ _ ?_ (fun hHeld3 => ?_)
    · first | go_keep
    clear hK K hHeld
    have hHeld := hHeld3
    clear hHeld3
    try simp only [Act.put, List.setIfInBounds_toArray, List.set_cons_zero, List.set_cons_succ]
    refine wpAnyH_take (i := 4) (oi := { dst := some 13, op := Op.convert 99 3 (Operand.tmp 12), type := 3, pos := "span.go:124", after := #[{ on := 3, ground := Ground.data }], guard := none }) (v := ?_) rfl (by kernel_rfl) (by kernel_rfl) (by kernel_rfl) (fun _ _ _ h => h) (Or.inl ⟨by rfl, ?_⟩) (by assumption) ?_
    rotate_left
    · (intro w hSw; (try dsimp only at hSw); go_simp; first | done | with_reducible rfl)
    try simp only [Act.put, List.setIfInBounds_toArray, List.set_cons_zero, List.set_cons_succ]
    refine wpAnyH_take (i := 5) (oi := { dst := some 14, op := Op.binOp BinOp.mul 3 (Operand.tmp 10) (Operand.tmp 13) 3, type := 3, pos := "span.go:124", after := #[{ on := 1, ground := Ground.data }, { on := 4, ground := Ground.data }], guard := none }) (v := ?_) rfl (by kernel_rfl) (by kernel_rfl) (by kernel_rfl) (fun _ _ _ h => h) (Or.inl ⟨by rfl, ?_⟩) (by assumption) ?_
    rotate_left
    · (intro w hSw; (try dsimp only at hSw); go_simp; first | done | with_reducible rfl)
    try simp only [Act.put, List.setIfInBounds_toArray, List.set_cons_zero, List.set_cons_succ]
    refine wpAnyH_take (i := 6) (oi := { dst := some 5, op := Op.assign (Operand.tmp 14), type := 3, pos := "span.go:124", after := #[{ on := 5, ground := Ground.data }, { on := 3, ground := Ground.chain }, { on := 0, ground := Ground.phase }, { on := 1, ground := Ground.phase }, { on := 2, ground := Ground.phase }, { on := 3, ground := Ground.phase }, { on := 4, ground := Ground.phase }, { on := 5, ground := Ground.phase }], guard := none }) (v := ?_) rfl (by kernel_rfl) (by kernel_rfl) (by kernel_rfl) (fun _ _ _ h => h) (Or.inl ⟨by rfl, ?_⟩) (by assumption) ?_
    rotate_left
    · (intro w hSw; (try dsimp only at hSw); go_simp; first | done | with_reducible rfl)
    try simp only [Act.put, List.setIfInBounds_toArray, List.set_cons_zero, List.set_cons_succ]
    refine wpAnyH_done (by kernel_rfl) ?_ _
    clear k1 k2 hHeld
    go_wp2
    refine bodyPost_ret (v := .agg #[.int .i64 (l + (h - l) % (m * magA n)), .int .i64 h, .int .i64 (m * magA n), .bool true]) (by simp [results, Try.results118, go_sem, *]) rfl ⟨rfl, ?_⟩
    repeat (first | exact Below.refl _ _ | refine Below.alloc ?_ (by simp; try omega) _ | refine Below.setCell ?_ (by simp; try omega) _ | refine Below.drew ?_)
end Go.Proofs.Ytabgphlpdoockaa
namespace Go.Proofs.Ytabgphlpdoockaa
open Go.RowKit
theorem nL_64 (l h : Int) (hl : I64 l) : I64 (nL l h) := by unfold nL; split; exact ⟨by omega, by omega⟩; exact hl
theorem nH_64 (l h : Int) (hh : I64 h) : I64 (nH l h) := by unfold nH; split; exact ⟨by omega, by omega⟩; exact hh
theorem nS_64 (l h st : Int) (dn : Bool) (h1 : -4000000000000 ≤ st) (h2 : st ≤ 4000000000000) : I64 (nS l h st dn) := by
  unfold nS I64; split
  · omega
  · split
    · omega
    · split <;> omega
/-- the two blocks that a function lays first, behind a call: the box of its range and its result -/
theorem res2 {w w1 : World} {t t' : TypeId} {a b c a' b' c' : Value} (hb : Below ((w.alloc (.cells #[a, b, c] t)).alloc (.cells #[a', b', c'] t')).heap.size ((w.alloc (.cells #[a, b, c] t)).alloc (.cells #[a', b', c'] t')) w1) :
    Hid (Below w.heap.size w w1) ∧ w.heap.size + 1 < w1.heap.size ∧ (w1.cell? ⟨w.heap.size, 0, none⟩ = some a ∧ w1.cell? ⟨w.heap.size, 1, none⟩ = some b ∧ w1.cell? ⟨w.heap.size, 2, none⟩ = some c) ∧
      (w1.cell? ⟨w.heap.size + 1, 0, none⟩ = some a' ∧ w1.cell? ⟨w.heap.size + 1, 1, none⟩ = some b' ∧ w1.cell? ⟨w.heap.size + 1, 2, none⟩ = some c') ∧
      (w1.frozen? ⟨w.heap.size + 1, 0, none⟩ = false ∧ w1.frozen? ⟨w.heap.size + 1, 1, none⟩ = false ∧ w1.frozen? ⟨w.heap.size + 1, 2, none⟩ = false) := by
  have hs : w.heap.size + 1 < ((w.alloc (.cells #[a, b, c] t)).alloc (.cells #[a', b', c'] t')).heap.size := by simp
  have hs0 : w.heap.size < ((w.alloc (.cells #[a, b, c] t)).alloc (.cells #[a', b', c'] t')).heap.size := by simp; omega
  refine ⟨(((Below.refl _ _).alloc (Nat.le_refl _) _).alloc (by simp) _).trans (hb.mono (by omega)), Nat.lt_of_lt_of_le hs hb.size, ⟨?_, ?_, ?_⟩, ⟨?_, ?_, ?_⟩, ?_, ?_, ?_⟩
  · rw [hb.cell (p := ⟨w.heap.size, 0, none⟩) hs0]; simp [go_sem]
  · rw [hb.cell (p := ⟨w.heap.size, 1, none⟩) hs0]; simp [go_sem]
  · rw [hb.cell (p := ⟨w.heap.size, 2, none⟩) hs0]; simp [go_sem]
  · rw [hb.cell (p := ⟨w.heap.size + 1, 0, none⟩) hs]; simp [go_sem]
  · rw [hb.cell (p := ⟨w.heap.size + 1, 1, none⟩) hs]; simp [go_sem]
  · rw [hb.cell (p := ⟨w.heap.size + 1, 2, none⟩) hs]; simp [go_sem]
  · rw [hb.frozen (p := ⟨w.heap.size + 1, 0, none⟩) hs]; simp [go_sem]
  · rw [hb.frozen (p := ⟨w.heap.size + 1, 1, none⟩) hs]; simp [go_sem]
  · rw [hb.frozen (p := ⟨w.heap.size + 1, 2, none⟩) hs]; simp [go_sem]
/-- a block's three cells, and that they may be written, behind a further call -/
theorem keepF {B : Nat} {w w1 : World} {a b c : Value} (hb : Below w.heap.size w w1) (hs : B < w.heap.size) (x : w.cell? ⟨B, 0, none⟩ = some a ∧ w.cell? ⟨B, 1, none⟩ = some b ∧ w.cell? ⟨B, 2, none⟩ = some c)
    (z : w.frozen? ⟨B, 0, none⟩ = false ∧ w.frozen? ⟨B, 1, none⟩ = false ∧ w.frozen? ⟨B, 2, none⟩ = false) :
    (w1.cell? ⟨B, 0, none⟩ = some a ∧ w1.cell? ⟨B, 1, none⟩ = some b ∧ w1.cell? ⟨B, 2, none⟩ = some c) ∧ (w1.frozen? ⟨B, 0, none⟩ = false ∧ w1.frozen? ⟨B, 1, none⟩ = false ∧ w1.frozen? ⟨B, 2, none⟩ = false) :=
  ⟨⟨(hb.cell (p := ⟨B, 0, none⟩) hs).trans x.1, (hb.cell (p := ⟨B, 1, none⟩) hs).trans x.2.1, (hb.cell (p := ⟨B, 2, none⟩) hs).trans x.2.2⟩,
   (hb.frozen (p := ⟨B, 0, none⟩) hs).trans z.1, (hb.frozen (p := ⟨B, 1, none⟩) hs).trans z.2.1, (hb.frozen (p := ⟨B, 2, none⟩) hs).trans z.2.2⟩
/-- what a closure that captured one variable does with a progression -/
def Moves (fv : FuncId) (a : Addr) (vn : Value) (l h m : Int) (dn : Bool) (l' h' st' : Int) (dn' : Bool) : Prop :=
  ∀ w : World, w.cell? a = some vn → Calls Try.prog fv #[.agg #[.int .i64 l, .int .i64 h, .int .i64 m, .bool dn], .pointer (some a)] w fun e w' => e = .returned (.agg #[.int .i64 l', .int .i64 h', .int .i64 st', .bool dn']) ∧ Below w.heap.size w w'
set_option maxHeartbeats 800000 in
theorem moved_By (b o : Nat) (vn : Value) (l h s l' h' st' : Int) (dn' : Bool) (w : World) (hk : Hid (chk l h s = 0)) (hle : l ≤ h) (hc : w.cell? ⟨b, o, none⟩ = some vn)
    (hm : Moves 118 ⟨b, o, none⟩ vn l h (magA s) (decide (s < 0)) l' h' st' dn') (hl' : I64 l') (hh' : I64 h') (s1 : -4000000000000 ≤ st') (s2 : st' ≤ 4000000000000) (hr : Hid (chk (nL l' h') (nH l' h') (nS l' h' st' dn') = 0)) :
    Calls Try.prog 117 #[.agg #[.int .i64 l, .int .i64 h, .int .i64 s], .func (.func 118) #[] #[.pointer (some ⟨b, o, none⟩)]] w fun e w' => e = .returned (.tuple #[.agg #[.int .i64 (nL l' h'), .int .i64 (nH l' h'), .int .i64 (nS l' h' st' dn')], .int .i64 0]) ∧ Below w.heap.size w w' := by
  obtain ⟨b1, b2, b3, b4, b5, b6, b7, b8⟩ := chk_bounds hk.out
  have q := quo_bd (h - l) (magA s) (by omega) b7
  have hz : ((h - l) / magA s + 1 == 0) = false := by simp; omega
  have hlt : b < w.heap.size := World.block_lt_of_cell? w _ hc
  have HC := Lib.hid hc
  clear hc q
  go_enter Try.func117, Try.ntmps117
  go_wp2_with fail
  refine (check_ok l h s _ ⟨by omega, by omega⟩ ⟨by omega, by omega⟩ ⟨by omega, by omega⟩ hk).mono ?_
  rintro e w1 ⟨rfl, hb1⟩
  obtain ⟨W1, z1, ⟨x0, x1, x2⟩, Y, F⟩ := res2 hb1
  have Y1 := Lib.hid Y
  have F1 := Lib.hid F
  clear hb1 Y F
  go_wp2_with fail
  refine (size_ok l h s _ hk hle).mono ?_
  rintro e w2 ⟨rfl, hb2⟩
  have W2 := hidTrans W1 hb2 (by omega)
  obtain ⟨z2, y0, y1, y2⟩ := keep3 hb2 (show w.heap.size < w1.heap.size by omega) x0 x1 x2
  have G2 := Lib.hid (keepF hb2 z1 Y1.out F1.out)
  have z2' := hb2.size
  clear hb2 W1 x0 x1 x2
  go_wp2_with fail
  refine (open_any _ _ _ _ (by omega) (by omega)).mono ?_
  rintro e w3 ⟨rfl, hb3⟩
  have W3 := hidTrans W2 hb3 (by omega)
  have G3 := Lib.hid (keepF hb3 (by omega) G2.out.1 G2.out.2)
  have z3 := hb3.size
  clear hb3 W2 y0 y1 y2
  go_wp2_with fail
  refine (hm _ ((W3.out.cell (p := ⟨b, o, none⟩) hlt).trans HC.out)).mono ?_
  rintro e w4 ⟨rfl, hb4⟩
  have W4 := hidTrans W3 hb4 (by omega)
  have G4 := Lib.hid (keepF hb4 (by omega) G3.out.1 G3.out.2)
  have z4 := hb4.size
  clear hb4 W3
  go_wp2_with fail
  refine (normal_any _ _ _ _ _ s1 s2).mono ?_
  rintro e w5 ⟨rfl, hb5⟩
  have W5 := hidTrans W4 hb5 (by omega)
  have G5 := Lib.hid (keepF hb5 (by omega) G4.out.1 G4.out.2)
  have z5 := hb5.size
  clear hb5 W4
  go_wp2_with fail
  refine (check_ok _ _ _ _ (nL_64 l' h' hl') (nH_64 l' h' hh') (nS_64 l' h' st' dn' s1 s2) hr).mono ?_
  rintro e w6 ⟨rfl, hb6⟩
  obtain ⟨V6, z6, y0, y1, y2⟩ := box3 hb6
  have W6 := hidTrans W5 V6.out (by omega)
  have G6 := keepF V6.out (by omega) G5.out.1 G5.out.2
  obtain ⟨⟨g0, g1, g2⟩, f0, f1, f2⟩ := G6
  clear hb6 W5 V6
  go_wp2
  refine bodyPost_ret (v := .tuple #[.agg #[.int .i64 (nL l' h'), .int .i64 (nH l' h'), .int .i64 (nS l' h' st' dn')], .int .i64 0]) (by simp [results, Try.results117, go_sem, *]) rfl ⟨rfl, ?_⟩
  repeat (first | exact W6.out | refine Below.setCell ?_ (by simp; try omega) _)
end Go.Proofs.Ytabgphlpdoockaa
