/-
  Part 9: RefJ, RefK, RefL, PairA, PairB, ByB.
-/
import Derived.Test.YtabgphlpdoockaaDr5
import Derived.Test.YtabgphlpdoockaaDr7
import Derived.Test.YtabgphlpdoockaaDr8
import Derived.BigQuiet
import Derived.Deep.CutBlock
import Derived.Deep.DeepCutAuto
import Derived.Deep.DrawnRows
import Derived.Deep.LoopGhost
import Derived.Deep.QuietTactic
import Derived.Deep.RegionHeld3
import Derived.Deep.RegionWith
import Derived.Lib.Hide
import Derived.WalkKit
import Derived.WalkLawsBesides
import Derived.WalkSpells
namespace Go.Proofs.Ytabgphlpdoockaa
open Go.RowKit
set_option maxHeartbeats 800000 in
theorem refInteriorOver (l h s n : Int) (hk : Hid (chk l h s = 0)) (hn : siz l h s < n ∨ n < -siz l h s) : Ret4 40 l h s n 0 0 0 5 := by
  obtain ⟨b1, b2, b3, b4, b5, b6, b7, b8⟩ := chk_bounds hk.out
  have z0 := siz_bd hk.out
  intro w
  go_enter Try.func40, Try.ntmps40
  go_wp2_with fail
  refine (refCheck_ok l h s _ hk).mono ?_
  rintro e w1 ⟨rfl, hb1⟩
  obtain ⟨W1, z1, ⟨x0, x1, x2⟩, Y, Fz⟩ := res2 hb1
  have Y1 := Lib.hid Y
  have F1 := Lib.hid Fz
  clear hb1 Y Fz
  go_wp2_with fail
  refine (refSize_any l h s _ ⟨by omega, by omega⟩ ⟨by omega, by omega⟩ ⟨by omega, by omega⟩).mono ?_
  rintro e w2 ⟨rfl, hb2⟩
  have W2 := hidTrans W1 hb2 (by omega)
  obtain ⟨z2, u0, u1, u2⟩ := keep3 hb2 (show w.heap.size < w1.heap.size by omega) x0 x1 x2
  have G2 := Lib.hid (keepF hb2 z1 Y1.out F1.out)
  have z2' := hb2.size
  clear hb2 W1 x0 x1 x2
  obtain ⟨⟨g0, g1, g2⟩, f0, f1, f2⟩ := G2.out
  rcases hn with hn | hn
  · go_wp2
    refine bodyPost_ret (v := .tuple #[.agg #[.int .i64 0, .int .i64 0, .int .i64 0], .int .i64 5]) (by simp [results, Try.results40, go_sem, *]) rfl ⟨rfl, ?_⟩
    repeat (first | exact W2.out | refine Below.setCell ?_ (by simp; try omega) _)
  · have hn' : ¬ siz l h s < n := by omega
    go_wp2
    refine bodyPost_ret (v := .tuple #[.agg #[.int .i64 0, .int .i64 0, .int .i64 0], .int .i64 5]) (by simp [results, Try.results40, go_sem, *]) rfl ⟨rfl, ?_⟩
    repeat (first | exact W2.out | refine Below.setCell ?_ (by simp; try omega) _)
set_option maxHeartbeats 800000 in
theorem refInteriorZero (l h s : Int) (hk : Hid (chk l h s = 0)) : Ret4 40 l h s 0 1 0 1 0 := by
  obtain ⟨b1, b2, b3, b4, b5, b6, b7, b8⟩ := chk_bounds hk.out
  have z0 := siz_bd hk.out
  have hn1 : ¬ siz l h s < 0 := by omega
  have hn2 : ¬ 0 < -siz l h s := by omega
  intro w
  go_enter Try.func40, Try.ntmps40
  go_wp2_with fail
  refine (refCheck_ok l h s _ hk).mono ?_
  rintro e w1 ⟨rfl, hb1⟩
  obtain ⟨W1, z1, ⟨x0, x1, x2⟩, Y, Fz⟩ := res2 hb1
  have Y1 := Lib.hid Y
  have F1 := Lib.hid Fz
  clear hb1 Y Fz
  go_wp2_with fail
  refine (refSize_any l h s _ ⟨by omega, by omega⟩ ⟨by omega, by omega⟩ ⟨by omega, by omega⟩).mono ?_
  rintro e w2 ⟨rfl, hb2⟩
  have W2 := hidTrans W1 hb2 (by omega)
  obtain ⟨z2, u0, u1, u2⟩ := keep3 hb2 (show w.heap.size < w1.heap.size by omega) x0 x1 x2
  have G2 := Lib.hid (keepF hb2 z1 Y1.out F1.out)
  have z2' := hb2.size
  clear hb2 W1 x0 x1 x2
  go_wp2_with fail
  refine (refEmptyB _).mono ?_
  rintro e w3 ⟨rfl, hb3⟩
  have W3 := hidTrans W2 hb3 (by omega)
  obtain ⟨⟨g0, g1, g2⟩, f0, f1, f2⟩ := keepF hb3 (by omega) G2.out.1 G2.out.2
  clear hb3 W2
  go_wp2
  refine bodyPost_ret (v := .tuple #[.agg #[.int .i64 1, .int .i64 0, .int .i64 1], .int .i64 0]) (by simp [results, Try.results40, go_sem, *]) rfl ⟨rfl, ?_⟩
  repeat (first | exact W3.out | refine Below.setCell ?_ (by simp; try omega) _)
set_option maxHeartbeats 3200000 in
theorem refInteriorUp (l h s n : Int) (hk : Hid (chk l h s = 0)) (n0 : 0 < n) (hn1 : ¬ siz l h s < n) (p1 : 0 ≤ (n - 1) * magA s) (p2 : (n - 1) * magA s ≤ 2000000) : Ret4 40 l h s n (nL (h - (n - 1) * magA s) h) (nH (h - (n - 1) * magA s) h) (nS (h - (n - 1) * magA s) h (magA s) (decide (s < 0))) 0 := by
  obtain ⟨b1, b2, b3, b4, b5, b6, b7, b8⟩ := chk_bounds hk.out
  have z0 := siz_bd hk.out
  have hn2 : ¬ n < -siz l h s := by omega
  have k1 : IntKind.i64.wrap (n - 1) = n - 1 := IntWalk.i64_in _ (by omega)
  have k2 : IntKind.i64.wrap ((n - 1) * magA s) = (n - 1) * magA s := IntWalk.i64_in _ (by omega)
  have k3 : IntKind.i64.wrap (h - (n - 1) * magA s) = h - (n - 1) * magA s := IntWalk.i64_in _ (by omega)
  intro w
  go_enter Try.func40, Try.ntmps40
  go_wp2_with fail
  refine (refCheck_ok l h s _ hk).mono ?_
  rintro e w1 ⟨rfl, hb1⟩
  obtain ⟨W1, z1, ⟨x0, x1, x2⟩, Y, Fz⟩ := res2 hb1
  have Y1 := Lib.hid Y
  have F1 := Lib.hid Fz
  clear hb1 Y Fz
  go_wp2_with fail
  refine (refSize_any l h s _ ⟨by omega, by omega⟩ ⟨by omega, by omega⟩ ⟨by omega, by omega⟩).mono ?_
  rintro e w2 ⟨rfl, hb2⟩
  have W2 := hidTrans W1 hb2 (by omega)
  obtain ⟨z2, u0, u1, u2⟩ := keep3 hb2 (show w.heap.size < w1.heap.size by omega) x0 x1 x2
  have G2 := Lib.hid (keepF hb2 z1 Y1.out F1.out)
  have z2' := hb2.size
  clear hb2 W1 x0 x1 x2
  go_wp2_with fail
  refine wp_region_held_drew (S := (fun w' => w'.cell? ⟨w.heap.size, 0, none⟩ = some (.int .i64 l) ∧ w'.cell? ⟨w.heap.size, 1, none⟩ = some (.int .i64 h) ∧ w'.cell? ⟨w.heap.size, 2, none⟩ = some (.int .i64 s))) (by kernel_rfl) ?_ (fun hHeld => ?_)
  · go_keep
  refine wpAnyH_take (i := 0) (oi := { dst := some 28, op := Op.fieldAddr 23 (Operand.tmp 2) 1, type := 0, pos := "ref.go:239", after := #[], guard := none }) (v := ?_) rfl (by kernel_rfl) (by kernel_rfl) (by kernel_rfl) (fun _ _ _ h => h) (Or.inl ⟨by rfl, ?_⟩) (by assumption) ?_
  rotate_left
  · (intro w hSw; (try dsimp only at hSw); go_simp; first | done | with_reducible rfl)
  try simp only [Act.put, List.setIfInBounds_toArray, List.set_cons_zero, List.set_cons_succ]
  refine wpAnyH_take (i := 1) (oi := { dst := some 29, op := Op.load 3 (Operand.tmp 28), type := 3, pos := "ref.go:239", after := #[{ on := 0, ground := Ground.data }], guard := none }) (v := ?_) rfl (by kernel_rfl) (by kernel_rfl) (by kernel_rfl) (fun _ _ _ h => h) (Or.inl ⟨by rfl, ?_⟩) (by assumption) ?_
  rotate_left
  · (intro w hSw; (try dsimp only at hSw); go_simp; first | done | with_reducible rfl)
  try simp only [Act.put, List.setIfInBounds_toArray, List.set_cons_zero, List.set_cons_succ]
  refine wpAnyH_take (i := 2) (oi := { dst := some 30, op := Op.move (Operand.tmp 1), type := 3, pos := "ref.go:239", after := #[], guard := none }) (v := ?_) rfl (by kernel_rfl) (by kernel_rfl) (by kernel_rfl) (fun _ _ _ h => h) (Or.inl ⟨by rfl, ?_⟩) (by assumption) ?_
  rotate_left
  · (intro w hSw; (try dsimp only at hSw); go_simp; first | done | with_reducible rfl)
  try simp only [Act.put, List.setIfInBounds_toArray, List.set_cons_zero, List.set_cons_succ]
  refine wpAnyH_take (i := 3) (oi := { dst := some 31, op := Op.binOp BinOp.sub 3 (Operand.tmp 30) (Operand.const (Value.int IntKind.i64 1)) 3, type := 3, pos := "ref.go:239", after := #[{ on := 2, ground := Ground.data }], guard := none }) (v := ?_) rfl (by kernel_rfl) (by kernel_rfl) (by kernel_rfl) (fun _ _ _ h => h) (Or.inl ⟨by rfl, ?_⟩) (by assumption) ?_
  rotate_left
  · (intro w hSw; (try dsimp only at hSw); go_simp; first | done | with_reducible rfl)
  try simp only [Act.put, List.setIfInBounds_toArray, List.set_cons_zero, List.set_cons_succ]
  refine wpAnyH_take (i := 4) (oi := { dst := some 32, op := Op.load 23 (Operand.tmp 2), type := 23, pos := "ref.go:239", after := #[], guard := none }) (v := ?_) rfl (by kernel_rfl) (by kernel_rfl) (by kernel_rfl) (fun _ _ _ h => h) (Or.inl ⟨by rfl, ?_⟩) (by assumption) ?_
  rotate_left
  · (intro w hSw; (try dsimp only at hSw); go_simp; first | done | with_reducible rfl)
  try simp only [Act.put, List.setIfInBounds_toArray, List.set_cons_zero, List.set_cons_succ]
  refine wpAnyH_take (i := 8) (oi := { dst := some 36, op := Op.fieldAddr 23 (Operand.tmp 2) 1, type := 0, pos := "ref.go:239", after := #[], guard := none }) (v := ?_) rfl (by kernel_rfl) (by kernel_rfl) (by kernel_rfl) (fun _ _ _ h => h) (Or.inl ⟨by rfl, ?_⟩) (by assumption) ?_
  rotate_left
  · (intro w hSw; (try dsimp only at hSw); go_simp; first | done | with_reducible rfl)
  try simp only [Act.put, List.setIfInBounds_toArray, List.set_cons_zero, List.set_cons_succ]
  refine wpAnyH_take (i := 9) (oi := { dst := some 37, op := Op.load 3 (Operand.tmp 36), type := 3, pos := "ref.go:239", after := #[{ on := 8, ground := Ground.data }], guard := none }) (v := ?_) rfl (by kernel_rfl) (by kernel_rfl) (by kernel_rfl) (fun _ _ _ h => h) (Or.inl ⟨by rfl, ?_⟩) (by assumption) ?_
  rotate_left
  · (intro w hSw; (try dsimp only at hSw); go_simp; first | done | with_reducible rfl)
  try simp only [Act.put, List.setIfInBounds_toArray, List.set_cons_zero, List.set_cons_succ]
  refine wpAnyH_take (i := 10) (oi := { dst := some 38, op := Op.load 23 (Operand.tmp 2), type := 23, pos := "ref.go:239", after := #[], guard := none }) (v := ?_) rfl (by kernel_rfl) (by kernel_rfl) (by kernel_rfl) (fun _ _ _ h => h) (Or.inl ⟨by rfl, ?_⟩) (by assumption) ?_
  rotate_left
  · (intro w hSw; (try dsimp only at hSw); go_simp; first | done | with_reducible rfl)
  try simp only [Act.put, List.setIfInBounds_toArray, List.set_cons_zero, List.set_cons_succ]
  refine wpAnyH_take (i := 12) (oi := { dst := some 40, op := Op.fieldAddr 23 (Operand.tmp 2) 2, type := 0, pos := "ref.go:239", after := #[], guard := none }) (v := ?_) rfl (by kernel_rfl) (by kernel_rfl) (by kernel_rfl) (fun _ _ _ h => h) (Or.inl ⟨by rfl, ?_⟩) (by assumption) ?_
  rotate_left
  · (intro w hSw; (try dsimp only at hSw); go_simp; first | done | with_reducible rfl)
  try simp only [Act.put, List.setIfInBounds_toArray, List.set_cons_zero, List.set_cons_succ]
  refine wpAnyH_take (i := 13) (oi := { dst := some 41, op := Op.load 3 (Operand.tmp 40), type := 3, pos := "ref.go:239", after := #[{ on := 12, ground := Ground.data }], guard := none }) (v := ?_) rfl (by kernel_rfl) (by kernel_rfl) (by kernel_rfl) (fun _ _ _ h => h) (Or.inl ⟨by rfl, ?_⟩) (by assumption) ?_
  rotate_left
  · (intro w hSw; (try dsimp only at hSw); go_simp; first | done | with_reducible rfl)
  try simp only [Act.put, List.setIfInBounds_toArray, List.set_cons_zero, List.set_cons_succ]
  refine wpAnyH_take (i := 14) (oi := { dst := some 42, op := Op.binOp BinOp.lss 3 (Operand.tmp 41) (Operand.const (Value.int IntKind.i64 0)) 3, type := 4, pos := "ref.go:239", after := #[{ on := 13, ground := Ground.data }], guard := none }) (v := ?_) rfl (by kernel_rfl) (by kernel_rfl) (by kernel_rfl) (fun _ _ _ h => h) (Or.inl ⟨by rfl, ?_⟩) (by assumption) ?_
  rotate_left
  · (intro w hSw; (try dsimp only at hSw); go_simp; first | done | with_reducible rfl)
  try simp only [Act.put, List.setIfInBounds_toArray, List.set_cons_zero, List.set_cons_succ]
  refine wpAnyH_ready (rs := [5]) (by kernel_rfl) (by simp) ?_
  refine AllReadyH.cons (o := { dst := some 33, op := Op.call { callee := Callee.value (Operand.func 112), args := #[Operand.tmp 32], argTypes := #[23] }, type := 3, pos := "ref.go:239", after := #[{ on := 4, ground := Ground.data }], guard := none }) rfl (fun K hK => ?_) AllReadyH.nil
  go_simp
  refine (refStep_any _ _ _ _ (by omega) (by omega)).mono ?_
  rintro e w3 ⟨rfl, hb3⟩
  obtain ⟨hc3, hf3⟩ := bcell hb3
  have s3 : w2.heap.size ≤ w3.heap.size := hb3.size
  have G3 := Lib.hid (keepF (show Below w2.heap.size w2 w3 from ⟨hb3.os, hb3.tape, hb3.output, hb3.size, hb3.block⟩) (by omega) G2.out.1 G2.out.2)
  go_wp2_with fail
  refine hK.out _ _ ?_ (fun hHeld5 => ?_)
  · (obtain ⟨q0, q1, q2⟩ := hHeld; exact ⟨(hb3.cell (p := ⟨w.heap.size, 0, none⟩) (by simp; omega)).trans q0, (hb3.cell (p := ⟨w.heap.size, 1, none⟩) (by simp; omega)).trans q1, (hb3.cell (p := ⟨w.heap.size, 2, none⟩) (by simp; omega)).trans q2⟩)
  clear hK K hHeld
  have hHeld := hHeld5
  clear hHeld5
  try simp only [Act.put, List.setIfInBounds_toArray, List.set_cons_zero, List.set_cons_succ]
  refine wpAnyH_take (i := 6) (oi := { dst := some 34, op := Op.binOp BinOp.mul 3 (Operand.tmp 31) (Operand.tmp 33) 3, type := 3, pos := "ref.go:239", after := #[{ on := 3, ground := Ground.data }, { on := 5, ground := Ground.data }], guard := none }) (v := ?_) rfl (by kernel_rfl) (by kernel_rfl) (by kernel_rfl) (fun _ _ _ h => h) (Or.inl ⟨by rfl, ?_⟩) (by assumption) ?_
  rotate_left
  · (intro w hSw; (try dsimp only at hSw); go_simp; first | done | with_reducible rfl)
  try simp only [Act.put, List.setIfInBounds_toArray, List.set_cons_zero, List.set_cons_succ]
  refine wpAnyH_take (i := 7) (oi := { dst := some 35, op := Op.binOp BinOp.sub 3 (Operand.tmp 29) (Operand.tmp 34) 3, type := 3, pos := "ref.go:239", after := #[{ on := 1, ground := Ground.data }, { on := 6, ground := Ground.data }], guard := none }) (v := ?_) rfl (by kernel_rfl) (by kernel_rfl) (by kernel_rfl) (fun _ _ _ h => h) (Or.inl ⟨by rfl, ?_⟩) (by assumption) ?_
  rotate_left
  · (intro w hSw; (try dsimp only at hSw); go_simp; first | done | with_reducible rfl)
  try simp only [Act.put, List.setIfInBounds_toArray, List.set_cons_zero, List.set_cons_succ]
  refine wpAnyH_ready (rs := [11]) (by kernel_rfl) (by simp) ?_
  refine AllReadyH.cons (o := { dst := some 39, op := Op.call { callee := Callee.value (Operand.func 112), args := #[Operand.tmp 38], argTypes := #[23] }, type := 3, pos := "ref.go:239", after := #[{ on := 10, ground := Ground.data }, { on := 5, ground := Ground.chain }], guard := none }) rfl (fun K hK => ?_) AllReadyH.nil
  go_simp
  refine (refStep_any _ _ _ _ (by omega) (by omega)).mono ?_
  rintro e w4 ⟨rfl, hb4⟩
  obtain ⟨hc4, hf4⟩ := bcell hb4
  have s4 : w3.heap.size ≤ w4.heap.size := hb4.size
  have G4 := Lib.hid (keepF (show Below w3.heap.size w3 w4 from ⟨hb4.os, hb4.tape, hb4.output, hb4.size, hb4.block⟩) (by omega) G3.out.1 G3.out.2)
  go_wp2_with fail
  refine hK.out _ _ ?_ (fun hHeld11 => ?_)
  · (obtain ⟨q0, q1, q2⟩ := hHeld; exact ⟨(hb4.cell (p := ⟨w.heap.size, 0, none⟩) (by simp; omega)).trans q0, (hb4.cell (p := ⟨w.heap.size, 1, none⟩) (by simp; omega)).trans q1, (hb4.cell (p := ⟨w.heap.size, 2, none⟩) (by simp; omega)).trans q2⟩)
  clear hK K hHeld
  have hHeld := hHeld11
  clear hHeld11
  try simp only [Act.put, List.setIfInBounds_toArray, List.set_cons_zero, List.set_cons_succ]
  refine wpAnyH_ready (rs := [15]) (by kernel_rfl) (by simp) ?_
  refine AllReadyH.cons (o := { dst := some 43, op := Op.call { callee := Callee.value (Operand.func 108), args := #[Operand.tmp 35, Operand.tmp 37, Operand.tmp 39, Operand.tmp 42], argTypes := #[3, 3, 3, 4] }, type := 23, pos := "ref.go:239", after := #[{ on := 7, ground := Ground.data }, { on := 9, ground := Ground.data }, { on := 11, ground := Ground.data }, { on := 14, ground := Ground.data }, { on := 11, ground := Ground.chain }], guard := none }) rfl (fun K hK => ?_) AllReadyH.nil
  go_simp
  refine (refNormal_any _ _ _ _ _ (by omega) (by omega)).mono ?_
  rintro e w5 ⟨rfl, hb5⟩
  obtain ⟨hc5, hf5⟩ := bcell hb5
  have s5 : w4.heap.size ≤ w5.heap.size := hb5.size
  have G5 := Lib.hid (keepF (show Below w4.heap.size w4 w5 from ⟨hb5.os, hb5.tape, hb5.output, hb5.size, hb5.block⟩) (by omega) G4.out.1 G4.out.2)
  obtain ⟨⟨g0, g1, g2⟩, f0, f1, f2⟩ := G5.out
  go_wp2_with fail
  refine hK.out _ _ ?_ (fun hHeld15 => ?_)
  · (obtain ⟨q0, q1, q2⟩ := hHeld; exact ⟨(hb5.cell (p := ⟨w.heap.size, 0, none⟩) (by simp; omega)).trans q0, (hb5.cell (p := ⟨w.heap.size, 1, none⟩) (by simp; omega)).trans q1, (hb5.cell (p := ⟨w.heap.size, 2, none⟩) (by simp; omega)).trans q2⟩)
  clear hK K hHeld
  have hHeld := hHeld15
  clear hHeld15
  try simp only [Act.put, List.setIfInBounds_toArray, List.set_cons_zero, List.set_cons_succ]
  refine wpAnyH_ready (rs := [16]) (by kernel_rfl) (by simp) ?_
  refine AllReadyH.cons (o := { dst := none, op := Op.store 23 (Operand.tmp 4) (Operand.tmp 43), type := 0, pos := "ref.go:239", after := #[{ on := 15, ground := Ground.data }, { on := 15, ground := Ground.chain }, { on := 0, ground := Ground.phase }, { on := 1, ground := Ground.phase }, { on := 2, ground := Ground.phase }, { on := 3, ground := Ground.phase }, { on := 4, ground := Ground.phase }, { on := 5, ground := Ground.phase }, { on := 6, ground := Ground.phase }, { on := 7, ground := Ground.phase }, { on := 8, ground := Ground.phase }, { on := 9, ground := Ground.phase }, { on := 10, ground := Ground.phase }, { on := 11, ground := Ground.phase }, { on := 12, ground := Ground.phase }, { on := 13, ground := Ground.phase }, { on := 14, ground := Ground.phase }, { on := 15, ground := Ground.phase }], guard := none }) rfl (fun K hK => ?_) AllReadyH.nil
  go_simp
  refine hK.out _ _ ?_ (fun hHeld16 => ?_)
  · go_keep
  clear hK K hHeld
  have hHeld := hHeld16
  clear hHeld16
  try simp only [Act.put, List.setIfInBounds_toArray, List.set_cons_zero, List.set_cons_succ]
  refine wpAnyH_take (i := 17) (oi := { dst := some 5, op := Op.assign (Operand.const (Value.int IntKind.i64 0)), type := 24, pos := "ref.go:239", after := #[{ on := 16, ground := Ground.chain }, { on := 0, ground := Ground.phase }, { on := 1, ground := Ground.phase }, { on := 2, ground := Ground.phase }, { on := 3, ground := Ground.phase }, { on := 4, ground := Ground.phase }, { on := 5, ground := Ground.phase }, { on := 6, ground := Ground.phase }, { on := 7, ground := Ground.phase }, { on := 8, ground := Ground.phase }, { on := 9, ground := Ground.phase }, { on := 10, ground := Ground.phase }, { on := 11, ground := Ground.phase }, { on := 12, ground := Ground.phase }, { on := 13, ground := Ground.phase }, { on := 14, ground := Ground.phase }, { on := 15, ground := Ground.phase }, { on := 16, ground := Ground.phase }], guard := none }) (v := ?_) rfl (by kernel_rfl) (by kernel_rfl) (by kernel_rfl) (fun _ _ _ h => h) (Or.inl ⟨by rfl, ?_⟩) (by assumption) ?_
  rotate_left
  · (intro w hSw; (try dsimp only at hSw); go_simp; first | done | with_reducible rfl)
  try simp only [Act.put, List.setIfInBounds_toArray, List.set_cons_zero, List.set_cons_succ]
  refine wpAnyH_done (by kernel_rfl) ?_ _
  have Wa := W2.out.drew.trans (hb3.mono (by simp; omega))
  have Wa := Wa.trans (hb4.mono (by omega))
  have Wa := Wa.trans (hb5.mono (by omega))
  have W := Lib.hid Wa
  clear Wa hHeld hb3 hc3 hf3 hb4 hc4 hf4 hb5 hc5 hf5 W2
  go_wp2
  refine bodyPost_ret (v := .tuple #[.agg #[.int .i64 (nL (h - (n - 1) * magA s) h), .int .i64 (nH (h - (n - 1) * magA s) h), .int .i64 (nS (h - (n - 1) * magA s) h (magA s) (decide (s < 0)))], .int .i64 0]) (by simp [results, Try.results40, go_sem, *]) rfl ⟨rfl, ?_⟩
  repeat (first | exact W.out | refine Below.setCell ?_ (by simp; try omega) _)
set_option maxHeartbeats 3200000 in
theorem refInteriorDown (l h s n : Int) (hk : Hid (chk l h s = 0)) (n0 : n < 0) (hn2 : ¬ n < -siz l h s) (p1 : 0 ≤ (-n - 1) * magA s) (p2 : (-n - 1) * magA s ≤ 2000000) : Ret4 40 l h s n (nL l (l + (-n - 1) * magA s)) (nH l (l + (-n - 1) * magA s)) (nS l (l + (-n - 1) * magA s) (magA s) (decide (s < 0))) 0 := by
  obtain ⟨b1, b2, b3, b4, b5, b6, b7, b8⟩ := chk_bounds hk.out
  have z0 := siz_bd hk.out
  have hn1 : ¬ siz l h s < n := by omega
  have n0' : ¬ 0 < n := by omega
  have k0 : IntKind.i64.wrap (-n) = -n := IntWalk.i64_in _ (by omega)
  have k1 : IntKind.i64.wrap (-n - 1) = -n - 1 := IntWalk.i64_in _ (by omega)
  have k2 : IntKind.i64.wrap ((-n - 1) * magA s) = (-n - 1) * magA s := IntWalk.i64_in _ (by omega)
  have k3 : IntKind.i64.wrap (l + (-n - 1) * magA s) = l + (-n - 1) * magA s := IntWalk.i64_in _ (by omega)
  intro w
  go_enter Try.func40, Try.ntmps40
  go_wp2_with fail
  refine (refCheck_ok l h s _ hk).mono ?_
  rintro e w1 ⟨rfl, hb1⟩
  obtain ⟨W1, z1, ⟨x0, x1, x2⟩, Y, Fz⟩ := res2 hb1
  have Y1 := Lib.hid Y
  have F1 := Lib.hid Fz
  clear hb1 Y Fz
  go_wp2_with fail
  refine (refSize_any l h s _ ⟨by omega, by omega⟩ ⟨by omega, by omega⟩ ⟨by omega, by omega⟩).mono ?_
  rintro e w2 ⟨rfl, hb2⟩
  have W2 := hidTrans W1 hb2 (by omega)
  obtain ⟨z2, u0, u1, u2⟩ := keep3 hb2 (show w.heap.size < w1.heap.size by omega) x0 x1 x2
  have G2 := Lib.hid (keepF hb2 z1 Y1.out F1.out)
  have z2' := hb2.size
  clear hb2 W1 x0 x1 x2
  go_wp2_with fail
  refine wp_region_held_drew (S := (fun w' => w'.cell? ⟨w.heap.size, 0, none⟩ = some (.int .i64 l) ∧ w'.cell? ⟨w.heap.size, 1, none⟩ = some (.int .i64 h) ∧ w'.cell? ⟨w.heap.size, 2, none⟩ = some (.int .i64 s))) (by kernel_rfl) ?_ (fun hHeld => ?_)
  · go_keep
  refine wpAnyH_take (i := 0) (oi := { dst := some 46, op := Op.fieldAddr 23 (Operand.tmp 2) 0, type := 0, pos := "ref.go:242", after := #[], guard := none }) (v := ?_) rfl (by kernel_rfl) (by kernel_rfl) (by kernel_rfl) (fun _ _ _ h => h) (Or.inl ⟨by rfl, ?_⟩) (by assumption) ?_
  rotate_left
  · (intro w hSw; (try dsimp only at hSw); go_simp; first | done | with_reducible rfl)
  try simp only [Act.put, List.setIfInBounds_toArray, List.set_cons_zero, List.set_cons_succ]
  refine wpAnyH_take (i := 1) (oi := { dst := some 47, op := Op.load 3 (Operand.tmp 46), type := 3, pos := "ref.go:242", after := #[{ on := 0, ground := Ground.data }], guard := none }) (v := ?_) rfl (by kernel_rfl) (by kernel_rfl) (by kernel_rfl) (fun _ _ _ h => h) (Or.inl ⟨by rfl, ?_⟩) (by assumption) ?_
  rotate_left
  · (intro w hSw; (try dsimp only at hSw); go_simp; first | done | with_reducible rfl)
  try simp only [Act.put, List.setIfInBounds_toArray, List.set_cons_zero, List.set_cons_succ]
  refine wpAnyH_take (i := 2) (oi := { dst := some 48, op := Op.fieldAddr 23 (Operand.tmp 2) 0, type := 0, pos := "ref.go:242", after := #[], guard := none }) (v := ?_) rfl (by kernel_rfl) (by kernel_rfl) (by kernel_rfl) (fun _ _ _ h => h) (Or.inl ⟨by rfl, ?_⟩) (by assumption) ?_
  rotate_left
  · (intro w hSw; (try dsimp only at hSw); go_simp; first | done | with_reducible rfl)
  try simp only [Act.put, List.setIfInBounds_toArray, List.set_cons_zero, List.set_cons_succ]
  refine wpAnyH_take (i := 3) (oi := { dst := some 49, op := Op.load 3 (Operand.tmp 48), type := 3, pos := "ref.go:242", after := #[{ on := 2, ground := Ground.data }], guard := none }) (v := ?_) rfl (by kernel_rfl) (by kernel_rfl) (by kernel_rfl) (fun _ _ _ h => h) (Or.inl ⟨by rfl, ?_⟩) (by assumption) ?_
  rotate_left
  · (intro w hSw; (try dsimp only at hSw); go_simp; first | done | with_reducible rfl)
  try simp only [Act.put, List.setIfInBounds_toArray, List.set_cons_zero, List.set_cons_succ]
  refine wpAnyH_take (i := 4) (oi := { dst := some 50, op := Op.move (Operand.tmp 1), type := 3, pos := "ref.go:242", after := #[], guard := none }) (v := ?_) rfl (by kernel_rfl) (by kernel_rfl) (by kernel_rfl) (fun _ _ _ h => h) (Or.inl ⟨by rfl, ?_⟩) (by assumption) ?_
  rotate_left
  · (intro w hSw; (try dsimp only at hSw); go_simp; first | done | with_reducible rfl)
  try simp only [Act.put, List.setIfInBounds_toArray, List.set_cons_zero, List.set_cons_succ]
  refine wpAnyH_take (i := 5) (oi := { dst := some 51, op := Op.unOp UnOp.neg 3 (Operand.tmp 50), type := 3, pos := "ref.go:242", after := #[{ on := 4, ground := Ground.data }], guard := none }) (v := ?_) rfl (by kernel_rfl) (by kernel_rfl) (by kernel_rfl) (fun _ _ _ h => h) (Or.inl ⟨by rfl, ?_⟩) (by assumption) ?_
  rotate_left
  · (intro w hSw; (try dsimp only at hSw); go_simp; first | done | with_reducible rfl)
  try simp only [Act.put, List.setIfInBounds_toArray, List.set_cons_zero, List.set_cons_succ]
  refine wpAnyH_take (i := 6) (oi := { dst := some 52, op := Op.binOp BinOp.sub 3 (Operand.tmp 51) (Operand.const (Value.int IntKind.i64 1)) 3, type := 3, pos := "ref.go:242", after := #[{ on := 5, ground := Ground.data }], guard := none }) (v := ?_) rfl (by kernel_rfl) (by kernel_rfl) (by kernel_rfl) (fun _ _ _ h => h) (Or.inl ⟨by rfl, ?_⟩) (by assumption) ?_
  rotate_left
  · (intro w hSw; (try dsimp only at hSw); go_simp; first | done | with_reducible rfl)
  try simp only [Act.put, List.setIfInBounds_toArray, List.set_cons_zero, List.set_cons_succ]
  refine wpAnyH_take (i := 7) (oi := { dst := some 53, op := Op.load 23 (Operand.tmp 2), type := 23, pos := "ref.go:242", after := #[], guard := none }) (v := ?_) rfl (by kernel_rfl) (by kernel_rfl) (by kernel_rfl) (fun _ _ _ h => h) (Or.inl ⟨by rfl, ?_⟩) (by assumption) ?_
  rotate_left
  · (intro w hSw; (try dsimp only at hSw); go_simp; first | done | with_reducible rfl)
  try simp only [Act.put, List.setIfInBounds_toArray, List.set_cons_zero, List.set_cons_succ]
  refine wpAnyH_take (i := 11) (oi := { dst := some 57, op := Op.load 23 (Operand.tmp 2), type := 23, pos := "ref.go:242", after := #[], guard := none }) (v := ?_) rfl (by kernel_rfl) (by kernel_rfl) (by kernel_rfl) (fun _ _ _ h => h) (Or.inl ⟨by rfl, ?_⟩) (by assumption) ?_
  rotate_left
  · (intro w hSw; (try dsimp only at hSw); go_simp; first | done | with_reducible rfl)
  try simp only [Act.put, List.setIfInBounds_toArray, List.set_cons_zero, List.set_cons_succ]
  refine wpAnyH_take (i := 13) (oi := { dst := some 59, op := Op.fieldAddr 23 (Operand.tmp 2) 2, type := 0, pos := "ref.go:242", after := #[], guard := none }) (v := ?_) rfl (by kernel_rfl) (by kernel_rfl) (by kernel_rfl) (fun _ _ _ h => h) (Or.inl ⟨by rfl, ?_⟩) (by assumption) ?_
  rotate_left
  · (intro w hSw; (try dsimp only at hSw); go_simp; first | done | with_reducible rfl)
  try simp only [Act.put, List.setIfInBounds_toArray, List.set_cons_zero, List.set_cons_succ]
  refine wpAnyH_take (i := 14) (oi := { dst := some 60, op := Op.load 3 (Operand.tmp 59), type := 3, pos := "ref.go:242", after := #[{ on := 13, ground := Ground.data }], guard := none }) (v := ?_) rfl (by kernel_rfl) (by kernel_rfl) (by kernel_rfl) (fun _ _ _ h => h) (Or.inl ⟨by rfl, ?_⟩) (by assumption) ?_
  rotate_left
  · (intro w hSw; (try dsimp only at hSw); go_simp; first | done | with_reducible rfl)
  try simp only [Act.put, List.setIfInBounds_toArray, List.set_cons_zero, List.set_cons_succ]
  refine wpAnyH_take (i := 15) (oi := { dst := some 61, op := Op.binOp BinOp.lss 3 (Operand.tmp 60) (Operand.const (Value.int IntKind.i64 0)) 3, type := 4, pos := "ref.go:242", after := #[{ on := 14, ground := Ground.data }], guard := none }) (v := ?_) rfl (by kernel_rfl) (by kernel_rfl) (by kernel_rfl) (fun _ _ _ h => h) (Or.inl ⟨by rfl, ?_⟩) (by assumption) ?_
  rotate_left
  · (intro w hSw; (try dsimp only at hSw); go_simp; first | done | with_reducible rfl)
  try simp only [Act.put, List.setIfInBounds_toArray, List.set_cons_zero, List.set_cons_succ]
  refine wpAnyH_ready (rs := [8]) (by kernel_rfl) (by simp) ?_
  refine AllReadyH.cons (o := { dst := some 54, op := Op.call { callee := Callee.value (Operand.func 112), args := #[Operand.tmp 53], argTypes := #[23] }, type := 3, pos := "ref.go:242", after := #[{ on := 7, ground := Ground.data }], guard := none }) rfl (fun K hK => ?_) AllReadyH.nil
  go_simp
  refine (refStep_any _ _ _ _ (by omega) (by omega)).mono ?_
  rintro e w3 ⟨rfl, hb3⟩
  obtain ⟨hc3, hf3⟩ := bcell hb3
  have s3 : w2.heap.size ≤ w3.heap.size := hb3.size
  have G3 := Lib.hid (keepF (show Below w2.heap.size w2 w3 from ⟨hb3.os, hb3.tape, hb3.output, hb3.size, hb3.block⟩) (by omega) G2.out.1 G2.out.2)
  go_wp2_with fail
  refine hK.out _ _ ?_ (fun hHeld8 => ?_)
  · (obtain ⟨q0, q1, q2⟩ := hHeld; exact ⟨(hb3.cell (p := ⟨w.heap.size, 0, none⟩) (by simp; omega)).trans q0, (hb3.cell (p := ⟨w.heap.size, 1, none⟩) (by simp; omega)).trans q1, (hb3.cell (p := ⟨w.heap.size, 2, none⟩) (by simp; omega)).trans q2⟩)
  clear hK K hHeld
  have hHeld := hHeld8
  clear hHeld8
  try simp only [Act.put, List.setIfInBounds_toArray, List.set_cons_zero, List.set_cons_succ]
  refine wpAnyH_take (i := 9) (oi := { dst := some 55, op := Op.binOp BinOp.mul 3 (Operand.tmp 52) (Operand.tmp 54) 3, type := 3, pos := "ref.go:242", after := #[{ on := 6, ground := Ground.data }, { on := 8, ground := Ground.data }], guard := none }) (v := ?_) rfl (by kernel_rfl) (by kernel_rfl) (by kernel_rfl) (fun _ _ _ h => h) (Or.inl ⟨by rfl, ?_⟩) (by assumption) ?_
  rotate_left
  · (intro w hSw; (try dsimp only at hSw); go_simp; first | done | with_reducible rfl)
  try simp only [Act.put, List.setIfInBounds_toArray, List.set_cons_zero, List.set_cons_succ]
  refine wpAnyH_take (i := 10) (oi := { dst := some 56, op := Op.binOp BinOp.add 3 (Operand.tmp 49) (Operand.tmp 55) 3, type := 3, pos := "ref.go:242", after := #[{ on := 3, ground := Ground.data }, { on := 9, ground := Ground.data }], guard := none }) (v := ?_) rfl (by kernel_rfl) (by kernel_rfl) (by kernel_rfl) (fun _ _ _ h => h) (Or.inl ⟨by rfl, ?_⟩) (by assumption) ?_
  rotate_left
  · (intro w hSw; (try dsimp only at hSw); go_simp; first | done | with_reducible rfl)
  try simp only [Act.put, List.setIfInBounds_toArray, List.set_cons_zero, List.set_cons_succ]
  refine wpAnyH_ready (rs := [12]) (by kernel_rfl) (by simp) ?_
  refine AllReadyH.cons (o := { dst := some 58, op := Op.call { callee := Callee.value (Operand.func 112), args := #[Operand.tmp 57], argTypes := #[23] }, type := 3, pos := "ref.go:242", after := #[{ on := 11, ground := Ground.data }, { on := 8, ground := Ground.chain }], guard := none }) rfl (fun K hK => ?_) AllReadyH.nil
  go_simp
  refine (refStep_any _ _ _ _ (by omega) (by omega)).mono ?_
  rintro e w4 ⟨rfl, hb4⟩
  obtain ⟨hc4, hf4⟩ := bcell hb4
  have s4 : w3.heap.size ≤ w4.heap.size := hb4.size
  have G4 := Lib.hid (keepF (show Below w3.heap.size w3 w4 from ⟨hb4.os, hb4.tape, hb4.output, hb4.size, hb4.block⟩) (by omega) G3.out.1 G3.out.2)
  go_wp2_with fail
  refine hK.out _ _ ?_ (fun hHeld12 => ?_)
  · (obtain ⟨q0, q1, q2⟩ := hHeld; exact ⟨(hb4.cell (p := ⟨w.heap.size, 0, none⟩) (by simp; omega)).trans q0, (hb4.cell (p := ⟨w.heap.size, 1, none⟩) (by simp; omega)).trans q1, (hb4.cell (p := ⟨w.heap.size, 2, none⟩) (by simp; omega)).trans q2⟩)
  clear hK K hHeld
  have hHeld := hHeld12
  clear hHeld12
  try simp only [Act.put, List.setIfInBounds_toArray, List.set_cons_zero, List.set_cons_succ]
  refine wpAnyH_ready (rs := [16]) (by kernel_rfl) (by simp) ?_
  refine AllReadyH.cons (o := { dst := some 62, op := Op.call { callee := Callee.value (Operand.func 108), args := #[Operand.tmp 47, Operand.tmp 56, Operand.tmp 58, Operand.tmp 61], argTypes := #[3, 3, 3, 4] }, type := 23, pos := "ref.go:242", after := #[{ on := 1, ground := Ground.data }, { on := 10, ground := Ground.data }, { on := 12, ground := Ground.data }, { on := 15, ground := Ground.data }, { on := 12, ground := Ground.chain }], guard := none }) rfl (fun K hK => ?_) AllReadyH.nil
  go_simp
  refine (refNormal_any _ _ _ _ _ (by omega) (by omega)).mono ?_
  rintro e w5 ⟨rfl, hb5⟩
  obtain ⟨hc5, hf5⟩ := bcell hb5
  have s5 : w4.heap.size ≤ w5.heap.size := hb5.size
  have G5 := Lib.hid (keepF (show Below w4.heap.size w4 w5 from ⟨hb5.os, hb5.tape, hb5.output, hb5.size, hb5.block⟩) (by omega) G4.out.1 G4.out.2)
  obtain ⟨⟨g0, g1, g2⟩, f0, f1, f2⟩ := G5.out
  go_wp2_with fail
  refine hK.out _ _ ?_ (fun hHeld16 => ?_)
  · (obtain ⟨q0, q1, q2⟩ := hHeld; exact ⟨(hb5.cell (p := ⟨w.heap.size, 0, none⟩) (by simp; omega)).trans q0, (hb5.cell (p := ⟨w.heap.size, 1, none⟩) (by simp; omega)).trans q1, (hb5.cell (p := ⟨w.heap.size, 2, none⟩) (by simp; omega)).trans q2⟩)
  clear hK K hHeld
  have hHeld := hHeld16
  clear hHeld16
  try simp only [Act.put, List.setIfInBounds_toArray, List.set_cons_zero, List.set_cons_succ]
  refine wpAnyH_ready (rs := [17]) (by kernel_rfl) (by simp) ?_
  refine AllReadyH.cons (o := { dst := none, op := Op.store 23 (Operand.tmp 4) (Operand.tmp 62), type := 0, pos := "ref.go:242", after := #[{ on := 16, ground := Ground.data }, { on := 16, ground := Ground.chain }, { on := 0, ground := Ground.phase }, { on := 1, ground := Ground.phase }, { on := 2, ground := Ground.phase }, { on := 3, ground := Ground.phase }, { on := 4, ground := Ground.phase }, { on := 5, ground := Ground.phase }, { on := 6, ground := Ground.phase }, { on := 7, ground := Ground.phase }, { on := 8, ground := Ground.phase }, { on := 9, ground := Ground.phase }, { on := 10, ground := Ground.phase }, { on := 11, ground := Ground.phase }, { on := 12, ground := Ground.phase }, { on := 13, ground := Ground.phase }, { on := 14, ground := Ground.phase }, { on := 15, ground := Ground.phase }, { on := 16, ground := Ground.phase }], guard := none }) rfl (fun K hK => ?_) AllReadyH.nil
  go_simp
  refine hK.out _ _ ?_ (fun hHeld17 => ?_)
  · go_keep
  clear hK K hHeld
  have hHeld := hHeld17
  clear hHeld17
  try simp only [Act.put, List.setIfInBounds_toArray, List.set_cons_zero, List.set_cons_succ]
  refine wpAnyH_take (i := 18) (oi := { dst := some 5, op := Op.assign (Operand.const (Value.int IntKind.i64 0)), type := 24, pos := "ref.go:242", after := #[{ on := 17, ground := Ground.chain }, { on := 0, ground := Ground.phase }, { on := 1, ground := Ground.phase }, { on := 2, ground := Ground.phase }, { on := 3, ground := Ground.phase }, { on := 4, ground := Ground.phase }, { on := 5, ground := Ground.phase }, { on := 6, ground := Ground.phase }, { on := 7, ground := Ground.phase }, { on := 8, ground := Ground.phase }, { on := 9, ground := Ground.phase }, { on := 10, ground := Ground.phase }, { on := 11, ground := Ground.phase }, { on := 12, ground := Ground.phase }, { on := 13, ground := Ground.phase }, { on := 14, ground := Ground.phase }, { on := 15, ground := Ground.phase }, { on := 16, ground := Ground.phase }, { on := 17, ground := Ground.phase }], guard := none }) (v := ?_) rfl (by kernel_rfl) (by kernel_rfl) (by kernel_rfl) (fun _ _ _ h => h) (Or.inl ⟨by rfl, ?_⟩) (by assumption) ?_
  rotate_left
  · (intro w hSw; (try dsimp only at hSw); go_simp; first | done | with_reducible rfl)
  try simp only [Act.put, List.setIfInBounds_toArray, List.set_cons_zero, List.set_cons_succ]
  refine wpAnyH_done (by kernel_rfl) ?_ _
  have Wa := W2.out.drew.trans (hb3.mono (by simp; omega))
  have Wa := Wa.trans (hb4.mono (by omega))
  have Wa := Wa.trans (hb5.mono (by omega))
  have W := Lib.hid Wa
  clear Wa hHeld hb3 hc3 hf3 hb4 hc4 hf4 hb5 hc5 hf5 W2
  go_wp2
  refine bodyPost_ret (v := .tuple #[.agg #[.int .i64 (nL l (l + (-n - 1) * magA s)), .int .i64 (nH l (l + (-n - 1) * magA s)), .int .i64 (nS l (l + (-n - 1) * magA s) (magA s) (decide (s < 0)))], .int .i64 0]) (by simp [results, Try.results40, go_sem, *]) rfl ⟨rfl, ?_⟩
  repeat (first | exact W.out | refine Below.setCell ?_ (by simp; try omega) _)
end Go.Proofs.Ytabgphlpdoockaa
namespace Go.Proofs.Ytabgphlpdoockaa
open Go.RowKit
/-- two changes return the same -/
def Pair (fa fb : FuncId) (l h s n : Int) : Prop := ∃ a b c e : Int, Ret4 fa l h s n a b c e ∧ Ret4 fb l h s n a b c e
/-- a right range that is not empty, as steps -/
theorem steps {l h s : Int} (hk : chk l h s = 0) (hle : l ≤ h) : h - l = (siz l h s - 1) * magA s ∧ 1 ≤ siz l h s ∧ 1 ≤ magA s ∧ s ≠ 0 := by
  have e := siz_ok hk hle
  rcases chk_zero hk with ⟨rfl, rfl, rfl⟩ | ⟨a1, a2, a3, a4, a5, a6, a7, a8, a9, _⟩
  · omega
  · have q := quo_bd (h - l) (magA s) (by omega) a7
    refine ⟨?_, by omega, a7, a4⟩
    have := ediv_mul (h - l) (magA s)
    rw [e, show (h - l) / magA s + 1 - 1 = (h - l) / magA s by omega, this]; omega
theorem mul_le_right (a b m : Int) (h : a ≤ b) (hm : 0 ≤ m) : a * m ≤ b * m := Int.mul_le_mul_of_nonneg_right h hm
theorem empty_of {l h s : Int} (_hk : chk l h s = 0) (hle : ¬ l ≤ h) : siz l h s = 0 := if_neg (fun c => hle c.2)
theorem pairInterior (l h s n : Int) (hl : I64 l) (hh : I64 h) (hs : I64 s) (hn : I64 n) : Pair 39 40 l h s n := by
  by_cases hk : chk l h s = 0
  · have zb := siz_bd hk
    by_cases ho : siz l h s < n ∨ n < -siz l h s
    · exact ⟨_, _, _, _, interiorCount l h s n hk ho, refInteriorOver l h s n hk ho⟩
    · by_cases hle : l ≤ h
      · obtain ⟨st, z1, m1, _⟩ := steps hk hle
        obtain ⟨b1, b2, b3, b4, b5, b6, b7, b8⟩ := chk_bounds hk
        by_cases n0 : n < 0
        · have p1 : 0 ≤ (-n - 1) * magA s := Int.mul_nonneg (by omega) (by omega)
          have p2 : (-n - 1) * magA s ≤ (siz l h s - 1) * magA s := mul_le_right _ _ _ (by omega) (by omega)
          have hr : chk (nL l (l + (-n - 1) * magA s)) (nH l (l + (-n - 1) * magA s)) (nS l (l + (-n - 1) * magA s) (magA s) (decide (s < 0))) = 0 := by
            rw [chk_nrm _ _ _ _ (by omega) m1 (by rw [show l + (-n - 1) * magA s - l = (-n - 1) * magA s by omega]; exact Int.mul_emod_left _ _), if_neg (by omega)]
          refine ⟨_, _, _, _, interiorMoved l h s n _ _ _ _ hk (by omega) (by omega) (Lib.hid ?_), refInteriorDown l h s n hk n0 (by omega) p1 (by omega)⟩
          exact fun b0 o w hc => moved_Interior b0 o _ l h s _ _ _ _ w hk hle hc (fun w' hw' => inCloN l h _ n _ b0 o w' hw' (by omega) (by omega) (by omega) (by omega) (by omega) (by omega) n0 (by omega) (by omega)) ⟨by omega, by omega⟩ ⟨by omega, by omega⟩ (by omega) (by omega) hr
        · by_cases n1 : n = 0
          · subst n1
            have e1 : (0 - 1) * magA s = -magA s := by rw [show (0 : Int) - 1 = -1 by omega, Int.neg_mul, Int.one_mul]
            have hr : chk (nL (h - (0 - 1) * magA s) h) (nH (h - (0 - 1) * magA s) h) (nS (h - (0 - 1) * magA s) h (magA s) (decide (s < 0))) = 0 := by
              rw [e1]
              have c : h < h - -magA s := by omega
              unfold nL nH nS; rw [if_pos c, if_pos c, if_pos c]; decide
            have r := interiorMoved l h s 0 _ _ _ _ hk (by omega) (by omega) (Lib.hid (show MovedTo _ l h s 0 _ _ _ _ from fun b0 o w hc => moved_Interior b0 o _ l h s _ _ _ _ w hk hle hc (fun w' hw' => inCloP l h _ 0 _ b0 o w' hw' (by omega) (by omega) (by omega) (by omega) (by omega) (by omega) (by omega) (by omega) (by omega)) ⟨by omega, by omega⟩ ⟨by omega, by omega⟩ (by omega) (by omega) hr))
            have c : h < h - (0 - 1) * magA s := by omega
            rw [show nL (h - (0 - 1) * magA s) h = 1 from if_pos c, show nH (h - (0 - 1) * magA s) h = 0 from if_pos c, show nS (h - (0 - 1) * magA s) h (magA s) (decide (s < 0)) = 1 from if_pos c] at r
            exact ⟨_, _, _, _, r, refInteriorZero l h s hk⟩
          · have p1 : 0 ≤ (n - 1) * magA s := Int.mul_nonneg (by omega) (by omega)
            have p2 : (n - 1) * magA s ≤ (siz l h s - 1) * magA s := mul_le_right _ _ _ (by omega) (by omega)
            have hr : chk (nL (h - (n - 1) * magA s) h) (nH (h - (n - 1) * magA s) h) (nS (h - (n - 1) * magA s) h (magA s) (decide (s < 0))) = 0 := by
              rw [chk_nrm _ _ _ _ (by omega) m1 (by rw [show h - (h - (n - 1) * magA s) = (n - 1) * magA s by omega]; exact Int.mul_emod_left _ _), if_neg (by omega)]
            refine ⟨_, _, _, _, interiorMoved l h s n _ _ _ _ hk (by omega) (by omega) (Lib.hid ?_), refInteriorUp l h s n hk (by omega) (by omega) p1 (by omega)⟩
            exact fun b0 o w hc => moved_Interior b0 o _ l h s _ _ _ _ w hk hle hc (fun w' hw' => inCloP l h _ n _ b0 o w' hw' (by omega) (by omega) (by omega) (by omega) (by omega) (by omega) n0 (by omega) (by omega)) ⟨by omega, by omega⟩ ⟨by omega, by omega⟩ (by omega) (by omega) hr
      · have z0 := empty_of hk hle
        obtain ⟨rfl, rfl, rfl⟩ := le_of_chk hk hle
        have n1 : n = 0 := by omega
        subst n1
        exact ⟨_, _, _, _, interiorMoved 1 0 1 0 _ _ _ _ hk (by omega) (by omega) (Lib.hid (movedTo_empty _ _)), refInteriorZero 1 0 1 hk⟩
  · exact ⟨_, _, _, _, interiorChk l h s n hl hh hs hk, refInteriorChk l h s n hl hh hs hk⟩
end Go.Proofs.Ytabgphlpdoockaa
namespace Go.Proofs.Ytabgphlpdoockaa
open Go.RowKit
theorem intDown (l h s n : Int) (hk : chk l h s = 0) (hle : l ≤ h) (n0 : n < 0) (hn : ¬ n < -siz l h s) : Ret4 39 l h s n (nL l (l + (-n - 1) * magA s)) (nH l (l + (-n - 1) * magA s)) (nS l (l + (-n - 1) * magA s) (magA s) (decide (s < 0))) 0 := by
  have zb := siz_bd hk
  obtain ⟨st, z1, m1, _⟩ := steps hk hle
  obtain ⟨b1, b2, b3, b4, b5, b6, b7, b8⟩ := chk_bounds hk
  have p1 : 0 ≤ (-n - 1) * magA s := Int.mul_nonneg (by omega) (by omega)
  have p2 : (-n - 1) * magA s ≤ (siz l h s - 1) * magA s := mul_le_right _ _ _ (by omega) (by omega)
  have hr : chk (nL l (l + (-n - 1) * magA s)) (nH l (l + (-n - 1) * magA s)) (nS l (l + (-n - 1) * magA s) (magA s) (decide (s < 0))) = 0 := by
    rw [chk_nrm _ _ _ _ (by omega) m1 (by rw [show l + (-n - 1) * magA s - l = (-n - 1) * magA s by omega]; exact Int.mul_emod_left _ _), if_neg (by omega)]
  exact interiorMoved l h s n _ _ _ _ hk (by omega) (by omega) (Lib.hid fun b0 o w hc => moved_Interior b0 o _ l h s _ _ _ _ w hk hle hc (fun w' hw' => inCloN l h _ n _ b0 o w' hw' (by omega) (by omega) (by omega) (by omega) (by omega) (by omega) n0 (by omega) (by omega)) ⟨by omega, by omega⟩ ⟨by omega, by omega⟩ (by omega) (by omega) hr)
theorem intUp (l h s n : Int) (hk : chk l h s = 0) (hle : l ≤ h) (n0 : 0 < n) (hn : ¬ siz l h s < n) : Ret4 39 l h s n (nL (h - (n - 1) * magA s) h) (nH (h - (n - 1) * magA s) h) (nS (h - (n - 1) * magA s) h (magA s) (decide (s < 0))) 0 := by
  have zb := siz_bd hk
  obtain ⟨st, z1, m1, _⟩ := steps hk hle
  obtain ⟨b1, b2, b3, b4, b5, b6, b7, b8⟩ := chk_bounds hk
  have p1 : 0 ≤ (n - 1) * magA s := Int.mul_nonneg (by omega) (by omega)
  have p2 : (n - 1) * magA s ≤ (siz l h s - 1) * magA s := mul_le_right _ _ _ (by omega) (by omega)
  have hr : chk (nL (h - (n - 1) * magA s) h) (nH (h - (n - 1) * magA s) h) (nS (h - (n - 1) * magA s) h (magA s) (decide (s < 0))) = 0 := by
    rw [chk_nrm _ _ _ _ (by omega) m1 (by rw [show h - (h - (n - 1) * magA s) = (n - 1) * magA s by omega]; exact Int.mul_emod_left _ _), if_neg (by omega)]
  exact interiorMoved l h s n _ _ _ _ hk (by omega) (by omega) (Lib.hid fun b0 o w hc => moved_Interior b0 o _ l h s _ _ _ _ w hk hle hc (fun w' hw' => inCloP l h _ n _ b0 o w' hw' (by omega) (by omega) (by omega) (by omega) (by omega) (by omega) (by omega) (by omega) (by omega)) ⟨by omega, by omega⟩ ⟨by omega, by omega⟩ (by omega) (by omega) hr)
end Go.Proofs.Ytabgphlpdoockaa
namespace Go.Proofs.Ytabgphlpdoockaa
open Go.RowKit
/-- the range that By returns -/
def byT (l h s n : Int) : R3 := nrm (byLo l h (magA s) (decide (s < 0)) n) (byHi l h (magA s) (decide (s < 0)) n) (magA s * magA n) (byDn (decide (s < 0)) n)
theorem by_ret (l h s n : Int) (hk : chk l h s = 0) (hle : l ≤ h) (n0 : ¬ n = 0) (n1 : -1000000 ≤ n) (n2 : n ≤ 1000000) :
    Ret4 31 l h s n (byT l h s n).1 (byT l h s n).2.1 (byT l h s n).2.2 0 := fun w => By_ok l h s n w (Lib.hid hk) hle n0 n1 n2
theorem nrm_two {lo hi : Int} (c : lo < hi) (st : Int) (dn : Bool) : nrm lo hi st dn = (lo, hi, if dn = true then -st else st) := by
  unfold nrm nL nH nS
  rw [if_neg (by omega), if_neg (by omega), if_neg (by omega), if_neg (by omega)]
theorem step_zero {l h s : Int} (hk : chk l h s = 0) (hle : l ≤ h) : (h - l) % (magA s * 1) = 0 := by
  obtain ⟨st, _⟩ := steps_a hk hle
  rw [Int.mul_one]
  exact Int.emod_eq_zero_of_dvd ⟨siz l h s - 1, by rw [st, Int.mul_comm]⟩
theorem byT_back {l h s : Int} (hk : chk l h s = 0) (hle : l ≤ h) : byT l h s (-1) = nrm l h (magA s) (!decide (s < 0)) := by
  unfold byT byLo byHi byDn
  rw [show magA (-1) = 1 from rfl, step_zero hk hle, decide_eq_true (show (-1 : Int) < 0 by omega), Int.mul_one]
  cases decide (s < 0) <;> simp
end Go.Proofs.Ytabgphlpdoockaa
