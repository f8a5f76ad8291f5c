/-
  Part 16: RefI.
-/
import Derived.Test.YtabgphlpdoockaaDr8
import Derived.BigQuiet
import Derived.Deep.DrawnRows
import Derived.Deep.QuietTactic
import Derived.Deep.RegionHeld3
import Derived.Lib.Hide
import Derived.WalkKit
import Derived.WalkLawsBesides
import Derived.WalkSpells
namespace Go.Proofs.Ytabgphlpdoockaa
open Go.RowKit
theorem half_spell (z : Int) (h0 : 0 ≤ z) (h1 : z ≤ 2000001) : RowKit.wrap64 (-(z + 1).tdiv 2) = -((z + 1) / 2) := by
  rw [Int.tdiv_eq_ediv_of_nonneg (by omega)]
  exact IntWalk.wrap64_in _ (by omega)
set_option maxHeartbeats 800000 in
theorem refExpandSmall (l h s n : Int) (hk : Hid (chk l h s = 0)) (hle : l ≤ h) (n0 : n < 0) (hn : n ≤ -((siz l h s + 1) / 2)) : Ret4 38 l h s n 1 0 1 0 := by
  have zb := siz_bd hk.out
  have hd : decide (n ≤ RowKit.wrap64 (-(siz l h s + 1).tdiv 2)) = true := by rw [half_spell _ zb.1 zb.2]; simpa using hn
  clear hn
  obtain ⟨b1, b2, b3, b4, b5, b6, b7, b8⟩ := chk_bounds hk.out
  have e0 : reqB l h s 1 0 1 = false := by unfold reqB; simp; omega
  intro w
  go_enter Try.func38, Try.ntmps38
  go_wp2_with fail
  refine (refCheck_ok l h s _ hk).mono ?_
  rintro e w1 ⟨rfl, hb1⟩
  obtain ⟨W1, z1, ⟨x0, x1, x2⟩, Y, Fz⟩ := res2 hb1
  have Y1 := Lib.hid Y
  have F1 := Lib.hid Fz
  clear hb1 Y Fz
  go_wp2_with fail
  refine (refIsEmpty_any _ _ _ _).mono ?_
  rintro e w2 ⟨rfl, hb2⟩
  have W2 := hidTrans W1 hb2 (by omega)
  obtain ⟨z2, u0, u1, u2⟩ := keep3 hb2 (show w.heap.size < w1.heap.size by omega) x0 x1 x2
  have G2 := Lib.hid (keepF hb2 z1 Y1.out F1.out)
  have z2' := hb2.size
  clear hb2 W1 x0 x1 x2
  go_wp2_with fail
  refine (refSize_any l h s _ ⟨by omega, by omega⟩ ⟨by omega, by omega⟩ ⟨by omega, by omega⟩).mono ?_
  rintro e w3 ⟨rfl, hb3⟩
  have W3 := hidTrans W2 hb3 (by omega)
  obtain ⟨z3, u0, u1, u2⟩ := keep3 hb3 z2 u0 u1 u2
  have G3 := Lib.hid (keepF hb3 (by omega) G2.out.1 G2.out.2)
  have z3' := hb3.size
  clear hb3 W2
  go_wp2_with fail
  refine (refEmptyB _).mono ?_
  rintro e w4 ⟨rfl, hb4⟩
  have W4 := hidTrans W3 hb4 (by omega)
  obtain ⟨⟨g0, g1, g2⟩, f0, f1, f2⟩ := keepF hb4 (by omega) G3.out.1 G3.out.2
  clear hb4 W3
  go_wp2
  refine bodyPost_ret (v := .tuple #[.agg #[.int .i64 1, .int .i64 0, .int .i64 1], .int .i64 0]) (by simp [results, Try.results38, go_sem, *]) rfl ⟨rfl, ?_⟩
  repeat (first | exact W4.out | refine Below.setCell ?_ (by simp; try omega) _)
set_option maxHeartbeats 800000 in
theorem refExpandFar (l h s n : Int) (hk : Hid (chk l h s = 0)) (hle : l ≤ h) (n0 : 0 ≤ n) (hf : Hid (¬ (-2000000 ≤ n ∧ n ≤ 2000000))) : Ret4 38 l h s n 0 0 0 4 := by
  have nd : decide (n < 0) = false := by simp; omega
  obtain ⟨b1, b2, b3, b4, b5, b6, b7, b8⟩ := chk_bounds hk.out
  have e0 : reqB l h s 1 0 1 = false := by unfold reqB; simp; omega
  intro w
  go_enter Try.func38, Try.ntmps38
  go_wp2_with fail
  refine (refCheck_ok l h s _ hk).mono ?_
  rintro e w1 ⟨rfl, hb1⟩
  obtain ⟨W1, z1, ⟨x0, x1, x2⟩, Y, Fz⟩ := res2 hb1
  have Y1 := Lib.hid Y
  have F1 := Lib.hid Fz
  clear hb1 Y Fz
  go_wp2_with fail
  refine (refIsEmpty_any _ _ _ _).mono ?_
  rintro e w2 ⟨rfl, hb2⟩
  have W2 := hidTrans W1 hb2 (by omega)
  obtain ⟨z2, u0, u1, u2⟩ := keep3 hb2 (show w.heap.size < w1.heap.size by omega) x0 x1 x2
  have G2 := Lib.hid (keepF hb2 z1 Y1.out F1.out)
  have z2' := hb2.size
  clear hb2 W1 x0 x1 x2
  obtain ⟨⟨g0, g1, g2⟩, f0, f1, f2⟩ := G2.out
  go_wp2_with fail
  refine (far_yes _ _ hf.out).mono ?_
  rintro e w' ⟨rfl, rfl⟩
  go_wp2
  refine bodyPost_ret (v := .tuple #[.agg #[.int .i64 0, .int .i64 0, .int .i64 0], .int .i64 4]) (by simp [results, Try.results38, go_sem, *]) rfl ⟨rfl, ?_⟩
  repeat (first | exact W2.out | refine Below.setCell ?_ (by simp; try omega) _)
set_option maxHeartbeats 3200000 in
theorem refExpandUp (l h s n a b c e : Int) (hk : Hid (chk l h s = 0)) (hle : l ≤ h) (n0 : 0 ≤ n) (n2 : n ≤ 2000000) (p1 : -5000000000000 ≤ n * magA s) (p2 : n * magA s ≤ 5000000000000) (hm : Hid (LimTo (l - n * magA s) (h + n * magA s) (magA s) (decide (s < 0)) a b c e)) : Ret4 38 l h s n a b c e := by
  have nd : decide (n < 0) = false := by simp; omega
  have n1 : -2000000 ≤ n := by omega
  obtain ⟨b1, b2, b3, b4, b5, b6, b7, b8⟩ := chk_bounds hk.out
  have e0 : reqB l h s 1 0 1 = false := by unfold reqB; simp; omega
  have k1 : IntKind.i64.wrap (n * magA s) = n * magA s := IntWalk.i64_in _ (by omega)
  have k2 : IntKind.i64.wrap (l - n * magA s) = l - n * magA s := IntWalk.i64_in _ (by omega)
  have k3 : IntKind.i64.wrap (h + n * magA s) = h + n * magA s := IntWalk.i64_in _ (by omega)
  intro w
  go_enter Try.func38, Try.ntmps38
  go_wp2_with fail
  refine (refCheck_ok l h s _ hk).mono ?_
  rintro e w1 ⟨rfl, hb1⟩
  obtain ⟨W1, z1, ⟨x0, x1, x2⟩, Y, Fz⟩ := res2 hb1
  have Y1 := Lib.hid Y
  have F1 := Lib.hid Fz
  clear hb1 Y Fz
  go_wp2_with fail
  refine (refIsEmpty_any _ _ _ _).mono ?_
  rintro e w2 ⟨rfl, hb2⟩
  have W2 := hidTrans W1 hb2 (by omega)
  obtain ⟨z2, u0, u1, u2⟩ := keep3 hb2 (show w.heap.size < w1.heap.size by omega) x0 x1 x2
  have G2 := Lib.hid (keepF hb2 z1 Y1.out F1.out)
  have z2' := hb2.size
  clear hb2 W1 x0 x1 x2
  go_wp2_with fail
  refine (far_no _ _ n1 n2).mono ?_
  rintro e w' ⟨rfl, rfl⟩
  go_wp2_with fail
  refine wp_region_held_drew (S := (fun w' => w'.cell? ⟨w.heap.size, 0, none⟩ = some (.int .i64 l) ∧ w'.cell? ⟨w.heap.size, 1, none⟩ = some (.int .i64 h) ∧ w'.cell? ⟨w.heap.size, 2, none⟩ = some (.int .i64 s))) (by kernel_rfl) ?_ (fun hHeld => ?_)
  · go_keep
  refine wpAnyH_take (i := 0) (oi := { dst := some 32, op := Op.fieldAddr 23 (Operand.tmp 2) 0, type := 0, pos := "ref.go:226", after := #[], guard := none }) (v := ?_) rfl (by kernel_rfl) (by kernel_rfl) (by kernel_rfl) (fun _ _ _ h => h) (Or.inl ⟨by rfl, ?_⟩) (by assumption) ?_
  rotate_left
  · (intro w hSw; (try dsimp only at hSw); go_simp; first | done | with_reducible rfl)
  try simp only [Act.put, List.setIfInBounds_toArray, List.set_cons_zero, List.set_cons_succ]
  refine wpAnyH_take (i := 1) (oi := { dst := some 33, op := Op.load 3 (Operand.tmp 32), type := 3, pos := "ref.go:226", after := #[{ on := 0, ground := Ground.data }], guard := none }) (v := ?_) rfl (by kernel_rfl) (by kernel_rfl) (by kernel_rfl) (fun _ _ _ h => h) (Or.inl ⟨by rfl, ?_⟩) (by assumption) ?_
  rotate_left
  · (intro w hSw; (try dsimp only at hSw); go_simp; first | done | with_reducible rfl)
  try simp only [Act.put, List.setIfInBounds_toArray, List.set_cons_zero, List.set_cons_succ]
  refine wpAnyH_take (i := 2) (oi := { dst := some 34, op := Op.move (Operand.tmp 1), type := 3, pos := "ref.go:226", after := #[], guard := none }) (v := ?_) rfl (by kernel_rfl) (by kernel_rfl) (by kernel_rfl) (fun _ _ _ h => h) (Or.inl ⟨by rfl, ?_⟩) (by assumption) ?_
  rotate_left
  · (intro w hSw; (try dsimp only at hSw); go_simp; first | done | with_reducible rfl)
  try simp only [Act.put, List.setIfInBounds_toArray, List.set_cons_zero, List.set_cons_succ]
  refine wpAnyH_take (i := 3) (oi := { dst := some 35, op := Op.load 23 (Operand.tmp 2), type := 23, pos := "ref.go:226", after := #[], guard := none }) (v := ?_) rfl (by kernel_rfl) (by kernel_rfl) (by kernel_rfl) (fun _ _ _ h => h) (Or.inl ⟨by rfl, ?_⟩) (by assumption) ?_
  rotate_left
  · (intro w hSw; (try dsimp only at hSw); go_simp; first | done | with_reducible rfl)
  try simp only [Act.put, List.setIfInBounds_toArray, List.set_cons_zero, List.set_cons_succ]
  refine wpAnyH_take (i := 7) (oi := { dst := some 39, op := Op.fieldAddr 23 (Operand.tmp 2) 1, type := 0, pos := "ref.go:226", after := #[], guard := none }) (v := ?_) rfl (by kernel_rfl) (by kernel_rfl) (by kernel_rfl) (fun _ _ _ h => h) (Or.inl ⟨by rfl, ?_⟩) (by assumption) ?_
  rotate_left
  · (intro w hSw; (try dsimp only at hSw); go_simp; first | done | with_reducible rfl)
  try simp only [Act.put, List.setIfInBounds_toArray, List.set_cons_zero, List.set_cons_succ]
  refine wpAnyH_take (i := 8) (oi := { dst := some 40, op := Op.load 3 (Operand.tmp 39), type := 3, pos := "ref.go:226", after := #[{ on := 7, ground := Ground.data }], guard := none }) (v := ?_) rfl (by kernel_rfl) (by kernel_rfl) (by kernel_rfl) (fun _ _ _ h => h) (Or.inl ⟨by rfl, ?_⟩) (by assumption) ?_
  rotate_left
  · (intro w hSw; (try dsimp only at hSw); go_simp; first | done | with_reducible rfl)
  try simp only [Act.put, List.setIfInBounds_toArray, List.set_cons_zero, List.set_cons_succ]
  refine wpAnyH_take (i := 9) (oi := { dst := some 41, op := Op.move (Operand.tmp 1), type := 3, pos := "ref.go:226", after := #[], guard := none }) (v := ?_) rfl (by kernel_rfl) (by kernel_rfl) (by kernel_rfl) (fun _ _ _ h => h) (Or.inl ⟨by rfl, ?_⟩) (by assumption) ?_
  rotate_left
  · (intro w hSw; (try dsimp only at hSw); go_simp; first | done | with_reducible rfl)
  try simp only [Act.put, List.setIfInBounds_toArray, List.set_cons_zero, List.set_cons_succ]
  refine wpAnyH_take (i := 10) (oi := { dst := some 42, op := Op.load 23 (Operand.tmp 2), type := 23, pos := "ref.go:226", after := #[], guard := none }) (v := ?_) rfl (by kernel_rfl) (by kernel_rfl) (by kernel_rfl) (fun _ _ _ h => h) (Or.inl ⟨by rfl, ?_⟩) (by assumption) ?_
  rotate_left
  · (intro w hSw; (try dsimp only at hSw); go_simp; first | done | with_reducible rfl)
  try simp only [Act.put, List.setIfInBounds_toArray, List.set_cons_zero, List.set_cons_succ]
  refine wpAnyH_take (i := 14) (oi := { dst := some 46, op := Op.load 23 (Operand.tmp 2), type := 23, pos := "ref.go:226", after := #[], guard := none }) (v := ?_) rfl (by kernel_rfl) (by kernel_rfl) (by kernel_rfl) (fun _ _ _ h => h) (Or.inl ⟨by rfl, ?_⟩) (by assumption) ?_
  rotate_left
  · (intro w hSw; (try dsimp only at hSw); go_simp; first | done | with_reducible rfl)
  try simp only [Act.put, List.setIfInBounds_toArray, List.set_cons_zero, List.set_cons_succ]
  refine wpAnyH_take (i := 16) (oi := { dst := some 48, op := Op.fieldAddr 23 (Operand.tmp 2) 2, type := 0, pos := "ref.go:226", after := #[], guard := none }) (v := ?_) rfl (by kernel_rfl) (by kernel_rfl) (by kernel_rfl) (fun _ _ _ h => h) (Or.inl ⟨by rfl, ?_⟩) (by assumption) ?_
  rotate_left
  · (intro w hSw; (try dsimp only at hSw); go_simp; first | done | with_reducible rfl)
  try simp only [Act.put, List.setIfInBounds_toArray, List.set_cons_zero, List.set_cons_succ]
  refine wpAnyH_take (i := 17) (oi := { dst := some 49, op := Op.load 3 (Operand.tmp 48), type := 3, pos := "ref.go:226", after := #[{ on := 16, ground := Ground.data }], guard := none }) (v := ?_) rfl (by kernel_rfl) (by kernel_rfl) (by kernel_rfl) (fun _ _ _ h => h) (Or.inl ⟨by rfl, ?_⟩) (by assumption) ?_
  rotate_left
  · (intro w hSw; (try dsimp only at hSw); go_simp; first | done | with_reducible rfl)
  try simp only [Act.put, List.setIfInBounds_toArray, List.set_cons_zero, List.set_cons_succ]
  refine wpAnyH_take (i := 18) (oi := { dst := some 50, op := Op.binOp BinOp.lss 3 (Operand.tmp 49) (Operand.const (Value.int IntKind.i64 0)) 3, type := 4, pos := "ref.go:226", after := #[{ on := 17, ground := Ground.data }], guard := none }) (v := ?_) rfl (by kernel_rfl) (by kernel_rfl) (by kernel_rfl) (fun _ _ _ h => h) (Or.inl ⟨by rfl, ?_⟩) (by assumption) ?_
  rotate_left
  · (intro w hSw; (try dsimp only at hSw); go_simp; first | done | with_reducible rfl)
  try simp only [Act.put, List.setIfInBounds_toArray, List.set_cons_zero, List.set_cons_succ]
  refine wpAnyH_ready (rs := [4]) (by kernel_rfl) (by simp) ?_
  refine AllReadyH.cons (o := { dst := some 36, op := Op.call { callee := Callee.value (Operand.func 112), args := #[Operand.tmp 35], argTypes := #[23] }, type := 3, pos := "ref.go:226", after := #[{ on := 3, ground := Ground.data }], guard := none }) rfl (fun K hK => ?_) AllReadyH.nil
  go_simp
  refine (refStep_any _ _ _ _ (by omega) (by omega)).mono ?_
  rintro e w3 ⟨rfl, hb3⟩
  obtain ⟨hc3, hf3⟩ := bcell hb3
  have s3 : w2.heap.size ≤ w3.heap.size := hb3.size
  have G3 := Lib.hid (keepF (show Below w2.heap.size w2 w3 from ⟨hb3.os, hb3.tape, hb3.output, hb3.size, hb3.block⟩) (by omega) G2.out.1 G2.out.2)
  go_wp2_with fail
  refine hK.out _ _ ?_ (fun hHeld4 => ?_)
  · (obtain ⟨q0, q1, q2⟩ := hHeld; exact ⟨(hb3.cell (p := ⟨w.heap.size, 0, none⟩) (by simp; omega)).trans q0, (hb3.cell (p := ⟨w.heap.size, 1, none⟩) (by simp; omega)).trans q1, (hb3.cell (p := ⟨w.heap.size, 2, none⟩) (by simp; omega)).trans q2⟩)
  clear hK K hHeld
  have hHeld := hHeld4
  clear hHeld4
  try simp only [Act.put, List.setIfInBounds_toArray, List.set_cons_zero, List.set_cons_succ]
  refine wpAnyH_take (i := 5) (oi := { dst := some 37, op := Op.binOp BinOp.mul 3 (Operand.tmp 34) (Operand.tmp 36) 3, type := 3, pos := "ref.go:226", after := #[{ on := 2, ground := Ground.data }, { on := 4, ground := Ground.data }], guard := none }) (v := ?_) rfl (by kernel_rfl) (by kernel_rfl) (by kernel_rfl) (fun _ _ _ h => h) (Or.inl ⟨by rfl, ?_⟩) (by assumption) ?_
  rotate_left
  · (intro w hSw; (try dsimp only at hSw); go_simp; first | done | with_reducible rfl)
  try simp only [Act.put, List.setIfInBounds_toArray, List.set_cons_zero, List.set_cons_succ]
  refine wpAnyH_take (i := 6) (oi := { dst := some 38, op := Op.binOp BinOp.sub 3 (Operand.tmp 33) (Operand.tmp 37) 3, type := 3, pos := "ref.go:226", after := #[{ on := 1, ground := Ground.data }, { on := 5, ground := Ground.data }], guard := none }) (v := ?_) rfl (by kernel_rfl) (by kernel_rfl) (by kernel_rfl) (fun _ _ _ h => h) (Or.inl ⟨by rfl, ?_⟩) (by assumption) ?_
  rotate_left
  · (intro w hSw; (try dsimp only at hSw); go_simp; first | done | with_reducible rfl)
  try simp only [Act.put, List.setIfInBounds_toArray, List.set_cons_zero, List.set_cons_succ]
  refine wpAnyH_ready (rs := [11]) (by kernel_rfl) (by simp) ?_
  refine AllReadyH.cons (o := { dst := some 43, op := Op.call { callee := Callee.value (Operand.func 112), args := #[Operand.tmp 42], argTypes := #[23] }, type := 3, pos := "ref.go:226", after := #[{ on := 10, ground := Ground.data }, { on := 4, ground := Ground.chain }], guard := none }) rfl (fun K hK => ?_) AllReadyH.nil
  go_simp
  refine (refStep_any _ _ _ _ (by omega) (by omega)).mono ?_
  rintro e w4 ⟨rfl, hb4⟩
  obtain ⟨hc4, hf4⟩ := bcell hb4
  have s4 : w3.heap.size ≤ w4.heap.size := hb4.size
  have G4 := Lib.hid (keepF (show Below w3.heap.size w3 w4 from ⟨hb4.os, hb4.tape, hb4.output, hb4.size, hb4.block⟩) (by omega) G3.out.1 G3.out.2)
  go_wp2_with fail
  refine hK.out _ _ ?_ (fun hHeld11 => ?_)
  · (obtain ⟨q0, q1, q2⟩ := hHeld; exact ⟨(hb4.cell (p := ⟨w.heap.size, 0, none⟩) (by simp; omega)).trans q0, (hb4.cell (p := ⟨w.heap.size, 1, none⟩) (by simp; omega)).trans q1, (hb4.cell (p := ⟨w.heap.size, 2, none⟩) (by simp; omega)).trans q2⟩)
  clear hK K hHeld
  have hHeld := hHeld11
  clear hHeld11
  try simp only [Act.put, List.setIfInBounds_toArray, List.set_cons_zero, List.set_cons_succ]
  refine wpAnyH_take (i := 12) (oi := { dst := some 44, op := Op.binOp BinOp.mul 3 (Operand.tmp 41) (Operand.tmp 43) 3, type := 3, pos := "ref.go:226", after := #[{ on := 9, ground := Ground.data }, { on := 11, ground := Ground.data }], guard := none }) (v := ?_) rfl (by kernel_rfl) (by kernel_rfl) (by kernel_rfl) (fun _ _ _ h => h) (Or.inl ⟨by rfl, ?_⟩) (by assumption) ?_
  rotate_left
  · (intro w hSw; (try dsimp only at hSw); go_simp; first | done | with_reducible rfl)
  try simp only [Act.put, List.setIfInBounds_toArray, List.set_cons_zero, List.set_cons_succ]
  refine wpAnyH_take (i := 13) (oi := { dst := some 45, op := Op.binOp BinOp.add 3 (Operand.tmp 40) (Operand.tmp 44) 3, type := 3, pos := "ref.go:226", after := #[{ on := 8, ground := Ground.data }, { on := 12, ground := Ground.data }], guard := none }) (v := ?_) rfl (by kernel_rfl) (by kernel_rfl) (by kernel_rfl) (fun _ _ _ h => h) (Or.inl ⟨by rfl, ?_⟩) (by assumption) ?_
  rotate_left
  · (intro w hSw; (try dsimp only at hSw); go_simp; first | done | with_reducible rfl)
  try simp only [Act.put, List.setIfInBounds_toArray, List.set_cons_zero, List.set_cons_succ]
  refine wpAnyH_ready (rs := [15]) (by kernel_rfl) (by simp) ?_
  refine AllReadyH.cons (o := { dst := some 47, op := Op.call { callee := Callee.value (Operand.func 112), args := #[Operand.tmp 46], argTypes := #[23] }, type := 3, pos := "ref.go:226", after := #[{ on := 14, ground := Ground.data }, { on := 11, ground := Ground.chain }], guard := none }) rfl (fun K hK => ?_) AllReadyH.nil
  go_simp
  refine (refStep_any _ _ _ _ (by omega) (by omega)).mono ?_
  rintro e w5 ⟨rfl, hb5⟩
  obtain ⟨hc5, hf5⟩ := bcell hb5
  have s5 : w4.heap.size ≤ w5.heap.size := hb5.size
  have G5 := Lib.hid (keepF (show Below w4.heap.size w4 w5 from ⟨hb5.os, hb5.tape, hb5.output, hb5.size, hb5.block⟩) (by omega) G4.out.1 G4.out.2)
  go_wp2_with fail
  refine hK.out _ _ ?_ (fun hHeld15 => ?_)
  · (obtain ⟨q0, q1, q2⟩ := hHeld; exact ⟨(hb5.cell (p := ⟨w.heap.size, 0, none⟩) (by simp; omega)).trans q0, (hb5.cell (p := ⟨w.heap.size, 1, none⟩) (by simp; omega)).trans q1, (hb5.cell (p := ⟨w.heap.size, 2, none⟩) (by simp; omega)).trans q2⟩)
  clear hK K hHeld
  have hHeld := hHeld15
  clear hHeld15
  try simp only [Act.put, List.setIfInBounds_toArray, List.set_cons_zero, List.set_cons_succ]
  refine wpAnyH_ready (rs := [19]) (by kernel_rfl) (by simp) ?_
  refine AllReadyH.cons (o := { dst := some 51, op := Op.call { callee := Callee.value (Operand.func 122), args := #[Operand.tmp 38, Operand.tmp 45, Operand.tmp 47, Operand.tmp 50], argTypes := #[3, 3, 3, 4] }, type := 25, pos := "ref.go:226", after := #[{ on := 6, ground := Ground.data }, { on := 13, ground := Ground.data }, { on := 15, ground := Ground.data }, { on := 18, ground := Ground.data }, { on := 15, ground := Ground.chain }], guard := none }) rfl (fun K hK => ?_) AllReadyH.nil
  go_simp
  refine (hm.out _).mono ?_
  rintro e w6 ⟨rfl, hb6⟩
  obtain ⟨hc6, hf6⟩ := bcell hb6
  have s6 : w5.heap.size ≤ w6.heap.size := hb6.size
  have G6 := Lib.hid (keepF (show Below w5.heap.size w5 w6 from ⟨hb6.os, hb6.tape, hb6.output, hb6.size, hb6.block⟩) (by omega) G5.out.1 G5.out.2)
  obtain ⟨⟨g0, g1, g2⟩, f0, f1, f2⟩ := G6.out
  go_wp2_with fail
  refine hK.out _ _ ?_ (fun hHeld19 => ?_)
  · (obtain ⟨q0, q1, q2⟩ := hHeld; exact ⟨(hb6.cell (p := ⟨w.heap.size, 0, none⟩) (by simp; omega)).trans q0, (hb6.cell (p := ⟨w.heap.size, 1, none⟩) (by simp; omega)).trans q1, (hb6.cell (p := ⟨w.heap.size, 2, none⟩) (by simp; omega)).trans q2⟩)
  clear hK K hHeld
  have hHeld := hHeld19
  clear hHeld19
  try simp only [Act.put, List.setIfInBounds_toArray, List.set_cons_zero, List.set_cons_succ]
  refine wpAnyH_take (i := 20) (oi := { dst := some 52, op := Op.extract (Operand.tmp 51) 0, type := 23, pos := "ref.go:226", after := #[{ on := 19, ground := Ground.data }], guard := none }) (v := ?_) rfl (by kernel_rfl) (by kernel_rfl) (by kernel_rfl) (fun _ _ _ h => h) (Or.inl ⟨by rfl, ?_⟩) (by assumption) ?_
  rotate_left
  · (intro w hSw; (try dsimp only at hSw); go_simp; first | done | with_reducible rfl)
  try simp only [Act.put, List.setIfInBounds_toArray, List.set_cons_zero, List.set_cons_succ]
  refine wpAnyH_take (i := 21) (oi := { dst := some 53, op := Op.extract (Operand.tmp 51) 1, type := 24, pos := "ref.go:226", after := #[{ on := 19, ground := Ground.data }], guard := none }) (v := ?_) rfl (by kernel_rfl) (by kernel_rfl) (by kernel_rfl) (fun _ _ _ h => h) (Or.inl ⟨by rfl, ?_⟩) (by assumption) ?_
  rotate_left
  · (intro w hSw; (try dsimp only at hSw); go_simp; first | done | with_reducible rfl)
  try simp only [Act.put, List.setIfInBounds_toArray, List.set_cons_zero, List.set_cons_succ]
  refine wpAnyH_ready (rs := [22]) (by kernel_rfl) (by simp) ?_
  refine AllReadyH.cons (o := { dst := none, op := Op.store 23 (Operand.tmp 4) (Operand.tmp 52), type := 0, pos := "ref.go:226", after := #[{ on := 20, ground := Ground.data }, { on := 19, ground := Ground.chain }, { on := 0, ground := Ground.phase }, { on := 1, ground := Ground.phase }, { on := 2, ground := Ground.phase }, { on := 3, ground := Ground.phase }, { on := 4, ground := Ground.phase }, { on := 5, ground := Ground.phase }, { on := 6, ground := Ground.phase }, { on := 7, ground := Ground.phase }, { on := 8, ground := Ground.phase }, { on := 9, ground := Ground.phase }, { on := 10, ground := Ground.phase }, { on := 11, ground := Ground.phase }, { on := 12, ground := Ground.phase }, { on := 13, ground := Ground.phase }, { on := 14, ground := Ground.phase }, { on := 15, ground := Ground.phase }, { on := 16, ground := Ground.phase }, { on := 17, ground := Ground.phase }, { on := 18, ground := Ground.phase }, { on := 19, ground := Ground.phase }, { on := 20, ground := Ground.phase }, { on := 21, ground := Ground.phase }], guard := none }) rfl (fun K hK => ?_) AllReadyH.nil
  go_simp
  refine hK.out _ _ ?_ (fun hHeld22 => ?_)
  · go_keep
  clear hK K hHeld
  have hHeld := hHeld22
  clear hHeld22
  try simp only [Act.put, List.setIfInBounds_toArray, List.set_cons_zero, List.set_cons_succ]
  refine wpAnyH_take (i := 23) (oi := { dst := some 5, op := Op.assign (Operand.tmp 53), type := 24, pos := "ref.go:226", after := #[{ on := 21, ground := Ground.data }, { on := 22, ground := Ground.chain }, { on := 0, ground := Ground.phase }, { on := 1, ground := Ground.phase }, { on := 2, ground := Ground.phase }, { on := 3, ground := Ground.phase }, { on := 4, ground := Ground.phase }, { on := 5, ground := Ground.phase }, { on := 6, ground := Ground.phase }, { on := 7, ground := Ground.phase }, { on := 8, ground := Ground.phase }, { on := 9, ground := Ground.phase }, { on := 10, ground := Ground.phase }, { on := 11, ground := Ground.phase }, { on := 12, ground := Ground.phase }, { on := 13, ground := Ground.phase }, { on := 14, ground := Ground.phase }, { on := 15, ground := Ground.phase }, { on := 16, ground := Ground.phase }, { on := 17, ground := Ground.phase }, { on := 18, ground := Ground.phase }, { on := 19, ground := Ground.phase }, { on := 20, ground := Ground.phase }, { on := 21, ground := Ground.phase }, { on := 22, ground := Ground.phase }], guard := none }) (v := ?_) rfl (by kernel_rfl) (by kernel_rfl) (by kernel_rfl) (fun _ _ _ h => h) (Or.inl ⟨by rfl, ?_⟩) (by assumption) ?_
  rotate_left
  · (intro w hSw; (try dsimp only at hSw); go_simp; first | done | with_reducible rfl)
  try simp only [Act.put, List.setIfInBounds_toArray, List.set_cons_zero, List.set_cons_succ]
  refine wpAnyH_done (by kernel_rfl) ?_ _
  have Wa := W2.out.drew.trans (hb3.mono (by simp; omega))
  have Wa := Wa.trans (hb4.mono (by omega))
  have Wa := Wa.trans (hb5.mono (by omega))
  have Wa := Wa.trans (hb6.mono (by omega))
  have W := Lib.hid Wa
  clear Wa hHeld hb3 hc3 hf3 hb4 hc4 hf4 hb5 hc5 hf5 hb6 hc6 hf6 W2
  go_wp2
  refine bodyPost_ret (v := (.tuple #[.agg #[.int .i64 a, .int .i64 b, .int .i64 c], .int .i64 e])) (by simp [results, Try.results38, go_sem, *]) rfl ⟨rfl, ?_⟩
  repeat (first | exact W.out | refine Below.setCell ?_ (by simp; try omega) _)
set_option maxHeartbeats 3200000 in
theorem refExpandDown (l h s n a b c e : Int) (hk : Hid (chk l h s = 0)) (hle : l ≤ h) (n0 : n < 0) (n1 : -2000000 ≤ n) (hn : ¬ n ≤ -((siz l h s + 1) / 2)) (p1 : -5000000000000 ≤ n * magA s) (p2 : n * magA s ≤ 5000000000000) (hm : Hid (LimTo (l - n * magA s) (h + n * magA s) (magA s) (decide (s < 0)) a b c e)) : Ret4 38 l h s n a b c e := by
  have zb := siz_bd hk.out
  have hd : decide (n ≤ RowKit.wrap64 (-(siz l h s + 1).tdiv 2)) = false := by rw [half_spell _ zb.1 zb.2]; simp; omega
  clear hn
  have n2 : n ≤ 2000000 := by omega
  obtain ⟨b1, b2, b3, b4, b5, b6, b7, b8⟩ := chk_bounds hk.out
  have e0 : reqB l h s 1 0 1 = false := by unfold reqB; simp; omega
  have k1 : IntKind.i64.wrap (n * magA s) = n * magA s := IntWalk.i64_in _ (by omega)
  have k2 : IntKind.i64.wrap (l - n * magA s) = l - n * magA s := IntWalk.i64_in _ (by omega)
  have k3 : IntKind.i64.wrap (h + n * magA s) = h + n * magA s := IntWalk.i64_in _ (by omega)
  intro w
  go_enter Try.func38, Try.ntmps38
  go_wp2_with fail
  refine (refCheck_ok l h s _ hk).mono ?_
  rintro e w1 ⟨rfl, hb1⟩
  obtain ⟨W1, z1, ⟨x0, x1, x2⟩, Y, Fz⟩ := res2 hb1
  have Y1 := Lib.hid Y
  have F1 := Lib.hid Fz
  clear hb1 Y Fz
  go_wp2_with fail
  refine (refIsEmpty_any _ _ _ _).mono ?_
  rintro e w2 ⟨rfl, hb2⟩
  have W2 := hidTrans W1 hb2 (by omega)
  obtain ⟨z2, u0, u1, u2⟩ := keep3 hb2 (show w.heap.size < w1.heap.size by omega) x0 x1 x2
  have G2 := Lib.hid (keepF hb2 z1 Y1.out F1.out)
  have z2' := hb2.size
  clear hb2 W1 x0 x1 x2
  go_wp2_with fail
  refine (refSize_any l h s _ ⟨by omega, by omega⟩ ⟨by omega, by omega⟩ ⟨by omega, by omega⟩).mono ?_
  rintro e w3 ⟨rfl, hb3⟩
  have W3 := hidTrans W2 hb3 (by omega)
  obtain ⟨z3, u0, u1, u2⟩ := keep3 hb3 z2 u0 u1 u2
  have G3 := Lib.hid (keepF hb3 (by omega) G2.out.1 G2.out.2)
  have z3' := hb3.size
  clear hb3 W2
  go_wp2_with fail
  refine (far_no _ _ n1 n2).mono ?_
  rintro e w' ⟨rfl, rfl⟩
  go_wp2_with fail
  refine wp_region_held_drew (S := (fun w' => w'.cell? ⟨w.heap.size, 0, none⟩ = some (.int .i64 l) ∧ w'.cell? ⟨w.heap.size, 1, none⟩ = some (.int .i64 h) ∧ w'.cell? ⟨w.heap.size, 2, none⟩ = some (.int .i64 s))) (by kernel_rfl) ?_ (fun hHeld => ?_)
  · go_keep
  refine wpAnyH_take (i := 0) (oi := { dst := some 32, op := Op.fieldAddr 23 (Operand.tmp 2) 0, type := 0, pos := "ref.go:226", after := #[], guard := none }) (v := ?_) rfl (by kernel_rfl) (by kernel_rfl) (by kernel_rfl) (fun _ _ _ h => h) (Or.inl ⟨by rfl, ?_⟩) (by assumption) ?_
  rotate_left
  · (intro w hSw; (try dsimp only at hSw); go_simp; first | done | with_reducible rfl)
  try simp only [Act.put, List.setIfInBounds_toArray, List.set_cons_zero, List.set_cons_succ]
  refine wpAnyH_take (i := 1) (oi := { dst := some 33, op := Op.load 3 (Operand.tmp 32), type := 3, pos := "ref.go:226", after := #[{ on := 0, ground := Ground.data }], guard := none }) (v := ?_) rfl (by kernel_rfl) (by kernel_rfl) (by kernel_rfl) (fun _ _ _ h => h) (Or.inl ⟨by rfl, ?_⟩) (by assumption) ?_
  rotate_left
  · (intro w hSw; (try dsimp only at hSw); go_simp; first | done | with_reducible rfl)
  try simp only [Act.put, List.setIfInBounds_toArray, List.set_cons_zero, List.set_cons_succ]
  refine wpAnyH_take (i := 2) (oi := { dst := some 34, op := Op.move (Operand.tmp 1), type := 3, pos := "ref.go:226", after := #[], guard := none }) (v := ?_) rfl (by kernel_rfl) (by kernel_rfl) (by kernel_rfl) (fun _ _ _ h => h) (Or.inl ⟨by rfl, ?_⟩) (by assumption) ?_
  rotate_left
  · (intro w hSw; (try dsimp only at hSw); go_simp; first | done | with_reducible rfl)
  try simp only [Act.put, List.setIfInBounds_toArray, List.set_cons_zero, List.set_cons_succ]
  refine wpAnyH_take (i := 3) (oi := { dst := some 35, op := Op.load 23 (Operand.tmp 2), type := 23, pos := "ref.go:226", after := #[], guard := none }) (v := ?_) rfl (by kernel_rfl) (by kernel_rfl) (by kernel_rfl) (fun _ _ _ h => h) (Or.inl ⟨by rfl, ?_⟩) (by assumption) ?_
  rotate_left
  · (intro w hSw; (try dsimp only at hSw); go_simp; first | done | with_reducible rfl)
  try simp only [Act.put, List.setIfInBounds_toArray, List.set_cons_zero, List.set_cons_succ]
  refine wpAnyH_take (i := 7) (oi := { dst := some 39, op := Op.fieldAddr 23 (Operand.tmp 2) 1, type := 0, pos := "ref.go:226", after := #[], guard := none }) (v := ?_) rfl (by kernel_rfl) (by kernel_rfl) (by kernel_rfl) (fun _ _ _ h => h) (Or.inl ⟨by rfl, ?_⟩) (by assumption) ?_
  rotate_left
  · (intro w hSw; (try dsimp only at hSw); go_simp; first | done | with_reducible rfl)
  try simp only [Act.put, List.setIfInBounds_toArray, List.set_cons_zero, List.set_cons_succ]
  refine wpAnyH_take (i := 8) (oi := { dst := some 40, op := Op.load 3 (Operand.tmp 39), type := 3, pos := "ref.go:226", after := #[{ on := 7, ground := Ground.data }], guard := none }) (v := ?_) rfl (by kernel_rfl) (by kernel_rfl) (by kernel_rfl) (fun _ _ _ h => h) (Or.inl ⟨by rfl, ?_⟩) (by assumption) ?_
  rotate_left
  · (intro w hSw; (try dsimp only at hSw); go_simp; first | done | with_reducible rfl)
  try simp only [Act.put, List.setIfInBounds_toArray, List.set_cons_zero, List.set_cons_succ]
  refine wpAnyH_take (i := 9) (oi := { dst := some 41, op := Op.move (Operand.tmp 1), type := 3, pos := "ref.go:226", after := #[], guard := none }) (v := ?_) rfl (by kernel_rfl) (by kernel_rfl) (by kernel_rfl) (fun _ _ _ h => h) (Or.inl ⟨by rfl, ?_⟩) (by assumption) ?_
  rotate_left
  · (intro w hSw; (try dsimp only at hSw); go_simp; first | done | with_reducible rfl)
  try simp only [Act.put, List.setIfInBounds_toArray, List.set_cons_zero, List.set_cons_succ]
  refine wpAnyH_take (i := 10) (oi := { dst := some 42, op := Op.load 23 (Operand.tmp 2), type := 23, pos := "ref.go:226", after := #[], guard := none }) (v := ?_) rfl (by kernel_rfl) (by kernel_rfl) (by kernel_rfl) (fun _ _ _ h => h) (Or.inl ⟨by rfl, ?_⟩) (by assumption) ?_
  rotate_left
  · (intro w hSw; (try dsimp only at hSw); go_simp; first | done | with_reducible rfl)
  try simp only [Act.put, List.setIfInBounds_toArray, List.set_cons_zero, List.set_cons_succ]
  refine wpAnyH_take (i := 14) (oi := { dst := some 46, op := Op.load 23 (Operand.tmp 2), type := 23, pos := "ref.go:226", after := #[], guard := none }) (v := ?_) rfl (by kernel_rfl) (by kernel_rfl) (by kernel_rfl) (fun _ _ _ h => h) (Or.inl ⟨by rfl, ?_⟩) (by assumption) ?_
  rotate_left
  · (intro w hSw; (try dsimp only at hSw); go_simp; first | done | with_reducible rfl)
  try simp only [Act.put, List.setIfInBounds_toArray, List.set_cons_zero, List.set_cons_succ]
  refine wpAnyH_take (i := 16) (oi := { dst := some 48, op := Op.fieldAddr 23 (Operand.tmp 2) 2, type := 0, pos := "ref.go:226", after := #[], guard := none }) (v := ?_) rfl (by kernel_rfl) (by kernel_rfl) (by kernel_rfl) (fun _ _ _ h => h) (Or.inl ⟨by rfl, ?_⟩) (by assumption) ?_
  rotate_left
  · (intro w hSw; (try dsimp only at hSw); go_simp; first | done | with_reducible rfl)
  try simp only [Act.put, List.setIfInBounds_toArray, List.set_cons_zero, List.set_cons_succ]
  refine wpAnyH_take (i := 17) (oi := { dst := some 49, op := Op.load 3 (Operand.tmp 48), type := 3, pos := "ref.go:226", after := #[{ on := 16, ground := Ground.data }], guard := none }) (v := ?_) rfl (by kernel_rfl) (by kernel_rfl) (by kernel_rfl) (fun _ _ _ h => h) (Or.inl ⟨by rfl, ?_⟩) (by assumption) ?_
  rotate_left
  · (intro w hSw; (try dsimp only at hSw); go_simp; first | done | with_reducible rfl)
  try simp only [Act.put, List.setIfInBounds_toArray, List.set_cons_zero, List.set_cons_succ]
  refine wpAnyH_take (i := 18) (oi := { dst := some 50, op := Op.binOp BinOp.lss 3 (Operand.tmp 49) (Operand.const (Value.int IntKind.i64 0)) 3, type := 4, pos := "ref.go:226", after := #[{ on := 17, ground := Ground.data }], guard := none }) (v := ?_) rfl (by kernel_rfl) (by kernel_rfl) (by kernel_rfl) (fun _ _ _ h => h) (Or.inl ⟨by rfl, ?_⟩) (by assumption) ?_
  rotate_left
  · (intro w hSw; (try dsimp only at hSw); go_simp; first | done | with_reducible rfl)
  try simp only [Act.put, List.setIfInBounds_toArray, List.set_cons_zero, List.set_cons_succ]
  refine wpAnyH_ready (rs := [4]) (by kernel_rfl) (by simp) ?_
  refine AllReadyH.cons (o := { dst := some 36, op := Op.call { callee := Callee.value (Operand.func 112), args := #[Operand.tmp 35], argTypes := #[23] }, type := 3, pos := "ref.go:226", after := #[{ on := 3, ground := Ground.data }], guard := none }) rfl (fun K hK => ?_) AllReadyH.nil
  go_simp
  refine (refStep_any _ _ _ _ (by omega) (by omega)).mono ?_
  rintro e w4 ⟨rfl, hb4⟩
  obtain ⟨hc4, hf4⟩ := bcell hb4
  have s4 : w3.heap.size ≤ w4.heap.size := hb4.size
  have G4 := Lib.hid (keepF (show Below w3.heap.size w3 w4 from ⟨hb4.os, hb4.tape, hb4.output, hb4.size, hb4.block⟩) (by omega) G3.out.1 G3.out.2)
  go_wp2_with fail
  refine hK.out _ _ ?_ (fun hHeld4 => ?_)
  · (obtain ⟨q0, q1, q2⟩ := hHeld; exact ⟨(hb4.cell (p := ⟨w.heap.size, 0, none⟩) (by simp; omega)).trans q0, (hb4.cell (p := ⟨w.heap.size, 1, none⟩) (by simp; omega)).trans q1, (hb4.cell (p := ⟨w.heap.size, 2, none⟩) (by simp; omega)).trans q2⟩)
  clear hK K hHeld
  have hHeld := hHeld4
  clear hHeld4
  try simp only [Act.put, List.setIfInBounds_toArray, List.set_cons_zero, List.set_cons_succ]
  refine wpAnyH_take (i := 5) (oi := { dst := some 37, op := Op.binOp BinOp.mul 3 (Operand.tmp 34) (Operand.tmp 36) 3, type := 3, pos := "ref.go:226", after := #[{ on := 2, ground := Ground.data }, { on := 4, ground := Ground.data }], guard := none }) (v := ?_) rfl (by kernel_rfl) (by kernel_rfl) (by kernel_rfl) (fun _ _ _ h => h) (Or.inl ⟨by rfl, ?_⟩) (by assumption) ?_
  rotate_left
  · (intro w hSw; (try dsimp only at hSw); go_simp; first | done | with_reducible rfl)
  try simp only [Act.put, List.setIfInBounds_toArray, List.set_cons_zero, List.set_cons_succ]
  refine wpAnyH_take (i := 6) (oi := { dst := some 38, op := Op.binOp BinOp.sub 3 (Operand.tmp 33) (Operand.tmp 37) 3, type := 3, pos := "ref.go:226", after := #[{ on := 1, ground := Ground.data }, { on := 5, ground := Ground.data }], guard := none }) (v := ?_) rfl (by kernel_rfl) (by kernel_rfl) (by kernel_rfl) (fun _ _ _ h => h) (Or.inl ⟨by rfl, ?_⟩) (by assumption) ?_
  rotate_left
  · (intro w hSw; (try dsimp only at hSw); go_simp; first | done | with_reducible rfl)
  try simp only [Act.put, List.setIfInBounds_toArray, List.set_cons_zero, List.set_cons_succ]
  refine wpAnyH_ready (rs := [11]) (by kernel_rfl) (by simp) ?_
  refine AllReadyH.cons (o := { dst := some 43, op := Op.call { callee := Callee.value (Operand.func 112), args := #[Operand.tmp 42], argTypes := #[23] }, type := 3, pos := "ref.go:226", after := #[{ on := 10, ground := Ground.data }, { on := 4, ground := Ground.chain }], guard := none }) rfl (fun K hK => ?_) AllReadyH.nil
  go_simp
  refine (refStep_any _ _ _ _ (by omega) (by omega)).mono ?_
  rintro e w5 ⟨rfl, hb5⟩
  obtain ⟨hc5, hf5⟩ := bcell hb5
  have s5 : w4.heap.size ≤ w5.heap.size := hb5.size
  have G5 := Lib.hid (keepF (show Below w4.heap.size w4 w5 from ⟨hb5.os, hb5.tape, hb5.output, hb5.size, hb5.block⟩) (by omega) G4.out.1 G4.out.2)
  go_wp2_with fail
  refine hK.out _ _ ?_ (fun hHeld11 => ?_)
  · (obtain ⟨q0, q1, q2⟩ := hHeld; exact ⟨(hb5.cell (p := ⟨w.heap.size, 0, none⟩) (by simp; omega)).trans q0, (hb5.cell (p := ⟨w.heap.size, 1, none⟩) (by simp; omega)).trans q1, (hb5.cell (p := ⟨w.heap.size, 2, none⟩) (by simp; omega)).trans q2⟩)
  clear hK K hHeld
  have hHeld := hHeld11
  clear hHeld11
  try simp only [Act.put, List.setIfInBounds_toArray, List.set_cons_zero, List.set_cons_succ]
  refine wpAnyH_take (i := 12) (oi := { dst := some 44, op := Op.binOp BinOp.mul 3 (Operand.tmp 41) (Operand.tmp 43) 3, type := 3, pos := "ref.go:226", after := #[{ on := 9, ground := Ground.data }, { on := 11, ground := Ground.data }], guard := none }) (v := ?_) rfl (by kernel_rfl) (by kernel_rfl) (by kernel_rfl) (fun _ _ _ h => h) (Or.inl ⟨by rfl, ?_⟩) (by assumption) ?_
  rotate_left
  · (intro w hSw; (try dsimp only at hSw); go_simp; first | done | with_reducible rfl)
  try simp only [Act.put, List.setIfInBounds_toArray, List.set_cons_zero, List.set_cons_succ]
  refine wpAnyH_take (i := 13) (oi := { dst := some 45, op := Op.binOp BinOp.add 3 (Operand.tmp 40) (Operand.tmp 44) 3, type := 3, pos := "ref.go:226", after := #[{ on := 8, ground := Ground.data }, { on := 12, ground := Ground.data }], guard := none }) (v := ?_) rfl (by kernel_rfl) (by kernel_rfl) (by kernel_rfl) (fun _ _ _ h => h) (Or.inl ⟨by rfl, ?_⟩) (by assumption) ?_
  rotate_left
  · (intro w hSw; (try dsimp only at hSw); go_simp; first | done | with_reducible rfl)
  try simp only [Act.put, List.setIfInBounds_toArray, List.set_cons_zero, List.set_cons_succ]
  refine wpAnyH_ready (rs := [15]) (by kernel_rfl) (by simp) ?_
  refine AllReadyH.cons (o := { dst := some 47, op := Op.call { callee := Callee.value (Operand.func 112), args := #[Operand.tmp 46], argTypes := #[23] }, type := 3, pos := "ref.go:226", after := #[{ on := 14, ground := Ground.data }, { on := 11, ground := Ground.chain }], guard := none }) rfl (fun K hK => ?_) AllReadyH.nil
  go_simp
  refine (refStep_any _ _ _ _ (by omega) (by omega)).mono ?_
  rintro e w6 ⟨rfl, hb6⟩
  obtain ⟨hc6, hf6⟩ := bcell hb6
  have s6 : w5.heap.size ≤ w6.heap.size := hb6.size
  have G6 := Lib.hid (keepF (show Below w5.heap.size w5 w6 from ⟨hb6.os, hb6.tape, hb6.output, hb6.size, hb6.block⟩) (by omega) G5.out.1 G5.out.2)
  go_wp2_with fail
  refine hK.out _ _ ?_ (fun hHeld15 => ?_)
  · (obtain ⟨q0, q1, q2⟩ := hHeld; exact ⟨(hb6.cell (p := ⟨w.heap.size, 0, none⟩) (by simp; omega)).trans q0, (hb6.cell (p := ⟨w.heap.size, 1, none⟩) (by simp; omega)).trans q1, (hb6.cell (p := ⟨w.heap.size, 2, none⟩) (by simp; omega)).trans q2⟩)
  clear hK K hHeld
  have hHeld := hHeld15
  clear hHeld15
  try simp only [Act.put, List.setIfInBounds_toArray, List.set_cons_zero, List.set_cons_succ]
  refine wpAnyH_ready (rs := [19]) (by kernel_rfl) (by simp) ?_
  refine AllReadyH.cons (o := { dst := some 51, op := Op.call { callee := Callee.value (Operand.func 122), args := #[Operand.tmp 38, Operand.tmp 45, Operand.tmp 47, Operand.tmp 50], argTypes := #[3, 3, 3, 4] }, type := 25, pos := "ref.go:226", after := #[{ on := 6, ground := Ground.data }, { on := 13, ground := Ground.data }, { on := 15, ground := Ground.data }, { on := 18, ground := Ground.data }, { on := 15, ground := Ground.chain }], guard := none }) rfl (fun K hK => ?_) AllReadyH.nil
  go_simp
  refine (hm.out _).mono ?_
  rintro e w7 ⟨rfl, hb7⟩
  obtain ⟨hc7, hf7⟩ := bcell hb7
  have s7 : w6.heap.size ≤ w7.heap.size := hb7.size
  have G7 := Lib.hid (keepF (show Below w6.heap.size w6 w7 from ⟨hb7.os, hb7.tape, hb7.output, hb7.size, hb7.block⟩) (by omega) G6.out.1 G6.out.2)
  obtain ⟨⟨g0, g1, g2⟩, f0, f1, f2⟩ := G7.out
  go_wp2_with fail
  refine hK.out _ _ ?_ (fun hHeld19 => ?_)
  · (obtain ⟨q0, q1, q2⟩ := hHeld; exact ⟨(hb7.cell (p := ⟨w.heap.size, 0, none⟩) (by simp; omega)).trans q0, (hb7.cell (p := ⟨w.heap.size, 1, none⟩) (by simp; omega)).trans q1, (hb7.cell (p := ⟨w.heap.size, 2, none⟩) (by simp; omega)).trans q2⟩)
  clear hK K hHeld
  have hHeld := hHeld19
  clear hHeld19
  try simp only [Act.put, List.setIfInBounds_toArray, List.set_cons_zero, List.set_cons_succ]
  refine wpAnyH_take (i := 20) (oi := { dst := some 52, op := Op.extract (Operand.tmp 51) 0, type := 23, pos := "ref.go:226", after := #[{ on := 19, ground := Ground.data }], guard := none }) (v := ?_) rfl (by kernel_rfl) (by kernel_rfl) (by kernel_rfl) (fun _ _ _ h => h) (Or.inl ⟨by rfl, ?_⟩) (by assumption) ?_
  rotate_left
  · (intro w hSw; (try dsimp only at hSw); go_simp; first | done | with_reducible rfl)
  try simp only [Act.put, List.setIfInBounds_toArray, List.set_cons_zero, List.set_cons_succ]
  refine wpAnyH_take (i := 21) (oi := { dst := some 53, op := Op.extract (Operand.tmp 51) 1, type := 24, pos := "ref.go:226", after := #[{ on := 19, ground := Ground.data }], guard := none }) (v := ?_) rfl (by kernel_rfl) (by kernel_rfl) (by kernel_rfl) (fun _ _ _ h => h) (Or.inl ⟨by rfl, ?_⟩) (by assumption) ?_
  rotate_left
  · (intro w hSw; (try dsimp only at hSw); go_simp; first | done | with_reducible rfl)
  try simp only [Act.put, List.setIfInBounds_toArray, List.set_cons_zero, List.set_cons_succ]
  refine wpAnyH_ready (rs := [22]) (by kernel_rfl) (by simp) ?_
  refine AllReadyH.cons (o := { dst := none, op := Op.store 23 (Operand.tmp 4) (Operand.tmp 52), type := 0, pos := "ref.go:226", after := #[{ on := 20, ground := Ground.data }, { on := 19, ground := Ground.chain }, { on := 0, ground := Ground.phase }, { on := 1, ground := Ground.phase }, { on := 2, ground := Ground.phase }, { on := 3, ground := Ground.phase }, { on := 4, ground := Ground.phase }, { on := 5, ground := Ground.phase }, { on := 6, ground := Ground.phase }, { on := 7, ground := Ground.phase }, { on := 8, ground := Ground.phase }, { on := 9, ground := Ground.phase }, { on := 10, ground := Ground.phase }, { on := 11, ground := Ground.phase }, { on := 12, ground := Ground.phase }, { on := 13, ground := Ground.phase }, { on := 14, ground := Ground.phase }, { on := 15, ground := Ground.phase }, { on := 16, ground := Ground.phase }, { on := 17, ground := Ground.phase }, { on := 18, ground := Ground.phase }, { on := 19, ground := Ground.phase }, { on := 20, ground := Ground.phase }, { on := 21, ground := Ground.phase }], guard := none }) rfl (fun K hK => ?_) AllReadyH.nil
  go_simp
  refine hK.out _ _ ?_ (fun hHeld22 => ?_)
  · go_keep
  clear hK K hHeld
  have hHeld := hHeld22
  clear hHeld22
  try simp only [Act.put, List.setIfInBounds_toArray, List.set_cons_zero, List.set_cons_succ]
  refine wpAnyH_take (i := 23) (oi := { dst := some 5, op := Op.assign (Operand.tmp 53), type := 24, pos := "ref.go:226", after := #[{ on := 21, ground := Ground.data }, { on := 22, ground := Ground.chain }, { on := 0, ground := Ground.phase }, { on := 1, ground := Ground.phase }, { on := 2, ground := Ground.phase }, { on := 3, ground := Ground.phase }, { on := 4, ground := Ground.phase }, { on := 5, ground := Ground.phase }, { on := 6, ground := Ground.phase }, { on := 7, ground := Ground.phase }, { on := 8, ground := Ground.phase }, { on := 9, ground := Ground.phase }, { on := 10, ground := Ground.phase }, { on := 11, ground := Ground.phase }, { on := 12, ground := Ground.phase }, { on := 13, ground := Ground.phase }, { on := 14, ground := Ground.phase }, { on := 15, ground := Ground.phase }, { on := 16, ground := Ground.phase }, { on := 17, ground := Ground.phase }, { on := 18, ground := Ground.phase }, { on := 19, ground := Ground.phase }, { on := 20, ground := Ground.phase }, { on := 21, ground := Ground.phase }, { on := 22, ground := Ground.phase }], guard := none }) (v := ?_) rfl (by kernel_rfl) (by kernel_rfl) (by kernel_rfl) (fun _ _ _ h => h) (Or.inl ⟨by rfl, ?_⟩) (by assumption) ?_
  rotate_left
  · (intro w hSw; (try dsimp only at hSw); go_simp; first | done | with_reducible rfl)
  try simp only [Act.put, List.setIfInBounds_toArray, List.set_cons_zero, List.set_cons_succ]
  refine wpAnyH_done (by kernel_rfl) ?_ _
  have Wa := W3.out.drew.trans (hb4.mono (by simp; omega))
  have Wa := Wa.trans (hb5.mono (by omega))
  have Wa := Wa.trans (hb6.mono (by omega))
  have Wa := Wa.trans (hb7.mono (by omega))
  have W := Lib.hid Wa
  clear Wa hHeld hb4 hc4 hf4 hb5 hc5 hf5 hb6 hc6 hf6 hb7 hc7 hf7 W3
  go_wp2
  refine bodyPost_ret (v := (.tuple #[.agg #[.int .i64 a, .int .i64 b, .int .i64 c], .int .i64 e])) (by simp [results, Try.results38, go_sem, *]) rfl ⟨rfl, ?_⟩
  repeat (first | exact W.out | refine Below.setCell ?_ (by simp; try omega) _)
end Go.Proofs.Ytabgphlpdoockaa
