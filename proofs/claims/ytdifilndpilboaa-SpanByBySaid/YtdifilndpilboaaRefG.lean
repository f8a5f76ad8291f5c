/-
  The contracts of the reference's Translate, Expand, Interior and Exterior.
-/
import Derived.Test.YtdifilndpilboaaRefF
import Derived.WalkKit
import Derived.WalkSpells
import Derived.WalkLawsBesides
import Derived.BigQuiet
import Derived.Deep.QuietTactic
import Derived.Deep.RegionHeld3
import Derived.Deep.DrawnRows
import Derived.Lib.Hide
namespace Go.Proofs.Ytdifilndpilboaa
open Go.RowKit

set_option maxHeartbeats 800000 in
theorem refTranslateChk (l h s n : Int) (hl : I64 l) (hh : I64 h) (hs : I64 s) (hk : ¬ chk l h s = 0) : Ret4 33 l h s n 0 0 0 (chk l h s) := by
  have hn : (chk l h s != 0) = true := by simp [hk]
  clear hk
  intro w
  go_enter Try.func33, Try.ntmps33
  go_wp2_with fail
  refine (refCheck_any l h s _ hl hh hs).mono ?_
  rintro e w1 ⟨rfl, hb1⟩
  obtain ⟨W1, z1, ⟨x0, x1, x2⟩, Y, Fz⟩ := res2 hb1
  obtain ⟨g0, g1, g2⟩ := Y
  obtain ⟨f0, f1, f2⟩ := Fz
  clear hb1
  go_wp2
  refine bodyPost_ret (v := .tuple #[.agg #[.int .i64 0, .int .i64 0, .int .i64 0], .int .i64 (chk l h s)]) (by simp [results, Try.results33, go_sem, *]) rfl ⟨rfl, ?_⟩
  repeat (first | exact W1.out | refine Below.setCell ?_ (by simp; try omega) _)

set_option maxHeartbeats 800000 in
theorem refExpandChk (l h s n : Int) (hl : I64 l) (hh : I64 h) (hs : I64 s) (hk : ¬ chk l h s = 0) : Ret4 35 l h s n 0 0 0 (chk l h s) := by
  have hn : (chk l h s != 0) = true := by simp [hk]
  clear hk
  intro w
  go_enter Try.func35, Try.ntmps35
  go_wp2_with fail
  refine (refCheck_any l h s _ hl hh hs).mono ?_
  rintro e w1 ⟨rfl, hb1⟩
  obtain ⟨W1, z1, ⟨x0, x1, x2⟩, Y, Fz⟩ := res2 hb1
  obtain ⟨g0, g1, g2⟩ := Y
  obtain ⟨f0, f1, f2⟩ := Fz
  clear hb1
  go_wp2
  refine bodyPost_ret (v := .tuple #[.agg #[.int .i64 0, .int .i64 0, .int .i64 0], .int .i64 (chk l h s)]) (by simp [results, Try.results35, go_sem, *]) rfl ⟨rfl, ?_⟩
  repeat (first | exact W1.out | refine Below.setCell ?_ (by simp; try omega) _)

set_option maxHeartbeats 800000 in
theorem refInteriorChk (l h s n : Int) (hl : I64 l) (hh : I64 h) (hs : I64 s) (hk : ¬ chk l h s = 0) : Ret4 37 l h s n 0 0 0 (chk l h s) := by
  have hn : (chk l h s != 0) = true := by simp [hk]
  clear hk
  intro w
  go_enter Try.func37, Try.ntmps37
  go_wp2_with fail
  refine (refCheck_any l h s _ hl hh hs).mono ?_
  rintro e w1 ⟨rfl, hb1⟩
  obtain ⟨W1, z1, ⟨x0, x1, x2⟩, Y, Fz⟩ := res2 hb1
  obtain ⟨g0, g1, g2⟩ := Y
  obtain ⟨f0, f1, f2⟩ := Fz
  clear hb1
  go_wp2
  refine bodyPost_ret (v := .tuple #[.agg #[.int .i64 0, .int .i64 0, .int .i64 0], .int .i64 (chk l h s)]) (by simp [results, Try.results37, go_sem, *]) rfl ⟨rfl, ?_⟩
  repeat (first | exact W1.out | refine Below.setCell ?_ (by simp; try omega) _)

set_option maxHeartbeats 800000 in
theorem refExteriorChk (l h s n : Int) (hl : I64 l) (hh : I64 h) (hs : I64 s) (hk : ¬ chk l h s = 0) : Ret4 39 l h s n 0 0 0 (chk l h s) := by
  have hn : (chk l h s != 0) = true := by simp [hk]
  clear hk
  intro w
  go_enter Try.func39, Try.ntmps39
  go_wp2_with fail
  refine (refCheck_any l h s _ hl hh hs).mono ?_
  rintro e w1 ⟨rfl, hb1⟩
  obtain ⟨W1, z1, ⟨x0, x1, x2⟩, Y, Fz⟩ := res2 hb1
  obtain ⟨g0, g1, g2⟩ := Y
  obtain ⟨f0, f1, f2⟩ := Fz
  clear hb1
  go_wp2
  refine bodyPost_ret (v := .tuple #[.agg #[.int .i64 0, .int .i64 0, .int .i64 0], .int .i64 (chk l h s)]) (by simp [results, Try.results39, go_sem, *]) rfl ⟨rfl, ?_⟩
  repeat (first | exact W1.out | refine Below.setCell ?_ (by simp; try omega) _)

set_option maxHeartbeats 800000 in
theorem refByChk (l h s n : Int) (hl : I64 l) (hh : I64 h) (hs : I64 s) (hk : ¬ chk l h s = 0) : Ret4 29 l h s n 0 0 0 (chk l h s) := by
  have hn : (chk l h s != 0) = true := by simp [hk]
  clear hk
  intro w
  go_enter Try.func29, Try.ntmps29
  go_wp2_with fail
  refine (refCheck_any l h s _ hl hh hs).mono ?_
  rintro e w1 ⟨rfl, hb1⟩
  obtain ⟨W1, z1, ⟨x0, x1, x2⟩, Y, Fz⟩ := res2 hb1
  obtain ⟨g0, g1, g2⟩ := Y
  obtain ⟨f0, f1, f2⟩ := Fz
  clear hb1
  go_wp2
  refine bodyPost_ret (v := .tuple #[.agg #[.int .i64 0, .int .i64 0, .int .i64 0], .int .i64 (chk l h s)]) (by simp [results, Try.results29, go_sem, *]) rfl ⟨rfl, ?_⟩
  repeat (first | exact W1.out | refine Below.setCell ?_ (by simp; try omega) _)

set_option maxHeartbeats 800000 in
theorem refCountChk (l h s n : Int) (hl : I64 l) (hh : I64 h) (hs : I64 s) (hk : ¬ chk l h s = 0) : Ret4 31 l h s n 0 0 0 (chk l h s) := by
  have hn : (chk l h s != 0) = true := by simp [hk]
  clear hk
  intro w
  go_enter Try.func31, Try.ntmps31
  go_wp2_with fail
  refine (refCheck_any l h s _ hl hh hs).mono ?_
  rintro e w1 ⟨rfl, hb1⟩
  obtain ⟨W1, z1, ⟨x0, x1, x2⟩, Y, Fz⟩ := res2 hb1
  obtain ⟨g0, g1, g2⟩ := Y
  obtain ⟨f0, f1, f2⟩ := Fz
  clear hb1
  go_wp2
  refine bodyPost_ret (v := .tuple #[.agg #[.int .i64 0, .int .i64 0, .int .i64 0], .int .i64 (chk l h s)]) (by simp [results, Try.results31, go_sem, *]) rfl ⟨rfl, ?_⟩
  repeat (first | exact W1.out | refine Below.setCell ?_ (by simp; try omega) _)

theorem refEmptyB (w : World) :
    Calls Try.prog 98 #[] w fun e w' => e = .returned (.agg #[.int .i64 1, .int .i64 0, .int .i64 1]) ∧ Below w.heap.size w w' :=
  (refEmpty_any w).mono fun _ _ ⟨he, hw⟩ => ⟨he, by rw [← hw]; exact (Below.refl _ _).alloc (Nat.le_refl _) _⟩

set_option maxHeartbeats 800000 in
theorem refTranslateEmpty (n : Int) : Ret4 33 1 0 1 n 1 0 1 0 := by
  have e0 : reqB 1 0 1 1 0 1 = true := by decide
  intro w
  go_enter Try.func33, Try.ntmps33
  go_wp2_with fail
  refine (refCheck_ok 1 0 1 _ (Lib.hid (show chk 1 0 1 = 0 by decide))).mono ?_
  rintro e w1 ⟨rfl, hb1⟩
  obtain ⟨W1, z1, ⟨x0, x1, x2⟩, Y, Fz⟩ := res2 hb1
  have Y1 := Lib.hid Y
  have F1 := Lib.hid Fz
  clear hb1 Y Fz
  go_wp2_with fail
  refine (refIsEmpty_any _ _ _ _).mono ?_
  rintro e w2 ⟨rfl, hb2⟩
  have W2 := hidTrans W1 hb2 (by omega)
  obtain ⟨z2, u0, u1, u2⟩ := keep3 hb2 (show w.heap.size < w1.heap.size by omega) x0 x1 x2
  have G2 := Lib.hid (keepF hb2 z1 Y1.out F1.out)
  have z2' := hb2.size
  clear hb2 W1 x0 x1 x2
  obtain ⟨⟨g0, g1, g2⟩, f0, f1, f2⟩ := G2.out
  go_wp2
  refine bodyPost_ret (v := .tuple #[.agg #[.int .i64 1, .int .i64 0, .int .i64 1], .int .i64 0]) (by simp [results, Try.results33, go_sem, *]) rfl ⟨rfl, ?_⟩
  repeat (first | exact W2.out | refine Below.setCell ?_ (by simp; try omega) _)

set_option maxHeartbeats 800000 in
theorem refExpandEmpty (n : Int) : Ret4 35 1 0 1 n 1 0 1 0 := by
  have e0 : reqB 1 0 1 1 0 1 = true := by decide
  intro w
  go_enter Try.func35, Try.ntmps35
  go_wp2_with fail
  refine (refCheck_ok 1 0 1 _ (Lib.hid (show chk 1 0 1 = 0 by decide))).mono ?_
  rintro e w1 ⟨rfl, hb1⟩
  obtain ⟨W1, z1, ⟨x0, x1, x2⟩, Y, Fz⟩ := res2 hb1
  have Y1 := Lib.hid Y
  have F1 := Lib.hid Fz
  clear hb1 Y Fz
  go_wp2_with fail
  refine (refIsEmpty_any _ _ _ _).mono ?_
  rintro e w2 ⟨rfl, hb2⟩
  have W2 := hidTrans W1 hb2 (by omega)
  obtain ⟨z2, u0, u1, u2⟩ := keep3 hb2 (show w.heap.size < w1.heap.size by omega) x0 x1 x2
  have G2 := Lib.hid (keepF hb2 z1 Y1.out F1.out)
  have z2' := hb2.size
  clear hb2 W1 x0 x1 x2
  go_wp2_with fail
  refine (refEmptyB _).mono ?_
  rintro e w3 ⟨rfl, hb3⟩
  have W3 := hidTrans W2 hb3 (by omega)
  obtain ⟨⟨g0, g1, g2⟩, f0, f1, f2⟩ := keepF hb3 (by omega) G2.out.1 G2.out.2
  clear hb3 W2
  go_wp2
  refine bodyPost_ret (v := .tuple #[.agg #[.int .i64 1, .int .i64 0, .int .i64 1], .int .i64 0]) (by simp [results, Try.results35, go_sem, *]) rfl ⟨rfl, ?_⟩
  repeat (first | exact W3.out | refine Below.setCell ?_ (by simp; try omega) _)

set_option maxHeartbeats 800000 in
theorem refExteriorEmpty (n : Int) : Ret4 39 1 0 1 n 1 0 1 0 := by
  have e0 : reqB 1 0 1 1 0 1 = true := by decide
  intro w
  go_enter Try.func39, Try.ntmps39
  go_wp2_with fail
  refine (refCheck_ok 1 0 1 _ (Lib.hid (show chk 1 0 1 = 0 by decide))).mono ?_
  rintro e w1 ⟨rfl, hb1⟩
  obtain ⟨W1, z1, ⟨x0, x1, x2⟩, Y, Fz⟩ := res2 hb1
  have Y1 := Lib.hid Y
  have F1 := Lib.hid Fz
  clear hb1 Y Fz
  go_wp2_with fail
  refine (refIsEmpty_any _ _ _ _).mono ?_
  rintro e w2 ⟨rfl, hb2⟩
  have W2 := hidTrans W1 hb2 (by omega)
  obtain ⟨z2, u0, u1, u2⟩ := keep3 hb2 (show w.heap.size < w1.heap.size by omega) x0 x1 x2
  have G2 := Lib.hid (keepF hb2 z1 Y1.out F1.out)
  have z2' := hb2.size
  clear hb2 W1 x0 x1 x2
  go_wp2_with fail
  refine (refEmptyB _).mono ?_
  rintro e w3 ⟨rfl, hb3⟩
  have W3 := hidTrans W2 hb3 (by omega)
  obtain ⟨⟨g0, g1, g2⟩, f0, f1, f2⟩ := keepF hb3 (by omega) G2.out.1 G2.out.2
  clear hb3 W2
  go_wp2
  refine bodyPost_ret (v := .tuple #[.agg #[.int .i64 1, .int .i64 0, .int .i64 1], .int .i64 0]) (by simp [results, Try.results39, go_sem, *]) rfl ⟨rfl, ?_⟩
  repeat (first | exact W3.out | refine Below.setCell ?_ (by simp; try omega) _)

set_option maxHeartbeats 1600000 in
theorem refTranslateLim (l h s n a b c e : Int) (hk : Hid (chk l h s = 0)) (hle : l ≤ h) (n1 : -2000000 ≤ n) (n2 : n ≤ 2000000) (hm : Hid (LimTo (l + n) (h + n) (magA s) (decide (s < 0)) a b c e)) : Ret4 33 l h s n a b c e := by
  obtain ⟨b1, b2, b3, b4, b5, b6, b7, b8⟩ := chk_bounds hk.out
  have e0 : reqB l h s 1 0 1 = false := by unfold reqB; simp; omega
  have k1 : IntKind.i64.wrap (l + n) = l + n := IntWalk.i64_in _ (by omega)
  have k2 : IntKind.i64.wrap (h + n) = h + n := IntWalk.i64_in _ (by omega)
  intro w
  go_enter Try.func33, Try.ntmps33
  go_wp2_with fail
  refine (refCheck_ok l h s _ hk).mono ?_
  rintro e w1 ⟨rfl, hb1⟩
  obtain ⟨W1, z1, ⟨x0, x1, x2⟩, Y, Fz⟩ := res2 hb1
  have Y1 := Lib.hid Y
  have F1 := Lib.hid Fz
  clear hb1 Y Fz
  go_wp2_with fail
  refine (refIsEmpty_any _ _ _ _).mono ?_
  rintro e w2 ⟨rfl, hb2⟩
  have W2 := hidTrans W1 hb2 (by omega)
  obtain ⟨z2, u0, u1, u2⟩ := keep3 hb2 (show w.heap.size < w1.heap.size by omega) x0 x1 x2
  have G2 := Lib.hid (keepF hb2 z1 Y1.out F1.out)
  have z2' := hb2.size
  clear hb2 W1 x0 x1 x2
  go_wp2_with fail
  refine (far_no _ _ n1 n2).mono ?_
  rintro e w' ⟨rfl, rfl⟩
  go_wp2_with fail
  refine wp_region_held_drew (S := (fun w' => w'.cell? ⟨w.heap.size, 0, none⟩ = some (.int .i64 l) ∧ w'.cell? ⟨w.heap.size, 1, none⟩ = some (.int .i64 h) ∧ w'.cell? ⟨w.heap.size, 2, none⟩ = some (.int .i64 s))) (by kernel_rfl) ?_ (fun hHeld => ?_)
  · go_keep
  refine wpAnyH_take (i := 0) (oi := { dst := some 19, op := Op.fieldAddr 23 (Operand.tmp 2) 0, type := 0, pos := "ref.go:212", after := #[], guard := none }) (v := ?_) rfl (by kernel_rfl) (by kernel_rfl) (by kernel_rfl) (fun _ _ _ h => h) (Or.inl ⟨by rfl, ?_⟩) (by assumption) ?_
  rotate_left
  · (intro w hSw; (try dsimp only at hSw); go_simp; first | done | with_reducible rfl)
  try simp only [Act.put, List.setIfInBounds_toArray, List.set_cons_zero, List.set_cons_succ]
  refine wpAnyH_take (i := 1) (oi := { dst := some 20, op := Op.load 3 (Operand.tmp 19), type := 3, pos := "ref.go:212", after := #[{ on := 0, ground := Ground.data }], guard := none }) (v := ?_) rfl (by kernel_rfl) (by kernel_rfl) (by kernel_rfl) (fun _ _ _ h => h) (Or.inl ⟨by rfl, ?_⟩) (by assumption) ?_
  rotate_left
  · (intro w hSw; (try dsimp only at hSw); go_simp; first | done | with_reducible rfl)
  try simp only [Act.put, List.setIfInBounds_toArray, List.set_cons_zero, List.set_cons_succ]
  refine wpAnyH_take (i := 2) (oi := { dst := some 21, op := Op.move (Operand.tmp 1), type := 3, pos := "ref.go:212", after := #[], guard := none }) (v := ?_) rfl (by kernel_rfl) (by kernel_rfl) (by kernel_rfl) (fun _ _ _ h => h) (Or.inl ⟨by rfl, ?_⟩) (by assumption) ?_
  rotate_left
  · (intro w hSw; (try dsimp only at hSw); go_simp; first | done | with_reducible rfl)
  try simp only [Act.put, List.setIfInBounds_toArray, List.set_cons_zero, List.set_cons_succ]
  refine wpAnyH_take (i := 3) (oi := { dst := some 22, op := Op.binOp BinOp.add 3 (Operand.tmp 20) (Operand.tmp 21) 3, type := 3, pos := "ref.go:212", after := #[{ on := 1, ground := Ground.data }, { on := 2, ground := Ground.data }], guard := none }) (v := ?_) rfl (by kernel_rfl) (by kernel_rfl) (by kernel_rfl) (fun _ _ _ h => h) (Or.inl ⟨by rfl, ?_⟩) (by assumption) ?_
  rotate_left
  · (intro w hSw; (try dsimp only at hSw); go_simp; first | done | with_reducible rfl)
  try simp only [Act.put, List.setIfInBounds_toArray, List.set_cons_zero, List.set_cons_succ]
  refine wpAnyH_take (i := 4) (oi := { dst := some 23, op := Op.fieldAddr 23 (Operand.tmp 2) 1, type := 0, pos := "ref.go:212", after := #[], guard := none }) (v := ?_) rfl (by kernel_rfl) (by kernel_rfl) (by kernel_rfl) (fun _ _ _ h => h) (Or.inl ⟨by rfl, ?_⟩) (by assumption) ?_
  rotate_left
  · (intro w hSw; (try dsimp only at hSw); go_simp; first | done | with_reducible rfl)
  try simp only [Act.put, List.setIfInBounds_toArray, List.set_cons_zero, List.set_cons_succ]
  refine wpAnyH_take (i := 5) (oi := { dst := some 24, op := Op.load 3 (Operand.tmp 23), type := 3, pos := "ref.go:212", after := #[{ on := 4, ground := Ground.data }], guard := none }) (v := ?_) rfl (by kernel_rfl) (by kernel_rfl) (by kernel_rfl) (fun _ _ _ h => h) (Or.inl ⟨by rfl, ?_⟩) (by assumption) ?_
  rotate_left
  · (intro w hSw; (try dsimp only at hSw); go_simp; first | done | with_reducible rfl)
  try simp only [Act.put, List.setIfInBounds_toArray, List.set_cons_zero, List.set_cons_succ]
  refine wpAnyH_take (i := 6) (oi := { dst := some 25, op := Op.move (Operand.tmp 1), type := 3, pos := "ref.go:212", after := #[], guard := none }) (v := ?_) rfl (by kernel_rfl) (by kernel_rfl) (by kernel_rfl) (fun _ _ _ h => h) (Or.inl ⟨by rfl, ?_⟩) (by assumption) ?_
  rotate_left
  · (intro w hSw; (try dsimp only at hSw); go_simp; first | done | with_reducible rfl)
  try simp only [Act.put, List.setIfInBounds_toArray, List.set_cons_zero, List.set_cons_succ]
  refine wpAnyH_take (i := 7) (oi := { dst := some 26, op := Op.binOp BinOp.add 3 (Operand.tmp 24) (Operand.tmp 25) 3, type := 3, pos := "ref.go:212", after := #[{ on := 5, ground := Ground.data }, { on := 6, ground := Ground.data }], guard := none }) (v := ?_) rfl (by kernel_rfl) (by kernel_rfl) (by kernel_rfl) (fun _ _ _ h => h) (Or.inl ⟨by rfl, ?_⟩) (by assumption) ?_
  rotate_left
  · (intro w hSw; (try dsimp only at hSw); go_simp; first | done | with_reducible rfl)
  try simp only [Act.put, List.setIfInBounds_toArray, List.set_cons_zero, List.set_cons_succ]
  refine wpAnyH_take (i := 8) (oi := { dst := some 27, op := Op.load 23 (Operand.tmp 2), type := 23, pos := "ref.go:212", after := #[], guard := none }) (v := ?_) rfl (by kernel_rfl) (by kernel_rfl) (by kernel_rfl) (fun _ _ _ h => h) (Or.inl ⟨by rfl, ?_⟩) (by assumption) ?_
  rotate_left
  · (intro w hSw; (try dsimp only at hSw); go_simp; first | done | with_reducible rfl)
  try simp only [Act.put, List.setIfInBounds_toArray, List.set_cons_zero, List.set_cons_succ]
  refine wpAnyH_take (i := 10) (oi := { dst := some 29, op := Op.fieldAddr 23 (Operand.tmp 2) 2, type := 0, pos := "ref.go:212", after := #[], guard := none }) (v := ?_) rfl (by kernel_rfl) (by kernel_rfl) (by kernel_rfl) (fun _ _ _ h => h) (Or.inl ⟨by rfl, ?_⟩) (by assumption) ?_
  rotate_left
  · (intro w hSw; (try dsimp only at hSw); go_simp; first | done | with_reducible rfl)
  try simp only [Act.put, List.setIfInBounds_toArray, List.set_cons_zero, List.set_cons_succ]
  refine wpAnyH_take (i := 11) (oi := { dst := some 30, op := Op.load 3 (Operand.tmp 29), type := 3, pos := "ref.go:212", after := #[{ on := 10, ground := Ground.data }], guard := none }) (v := ?_) rfl (by kernel_rfl) (by kernel_rfl) (by kernel_rfl) (fun _ _ _ h => h) (Or.inl ⟨by rfl, ?_⟩) (by assumption) ?_
  rotate_left
  · (intro w hSw; (try dsimp only at hSw); go_simp; first | done | with_reducible rfl)
  try simp only [Act.put, List.setIfInBounds_toArray, List.set_cons_zero, List.set_cons_succ]
  refine wpAnyH_take (i := 12) (oi := { dst := some 31, op := Op.binOp BinOp.lss 3 (Operand.tmp 30) (Operand.const (Value.int IntKind.i64 0)) 3, type := 4, pos := "ref.go:212", after := #[{ on := 11, ground := Ground.data }], guard := none }) (v := ?_) rfl (by kernel_rfl) (by kernel_rfl) (by kernel_rfl) (fun _ _ _ h => h) (Or.inl ⟨by rfl, ?_⟩) (by assumption) ?_
  rotate_left
  · (intro w hSw; (try dsimp only at hSw); go_simp; first | done | with_reducible rfl)
  try simp only [Act.put, List.setIfInBounds_toArray, List.set_cons_zero, List.set_cons_succ]
  refine wpAnyH_ready (rs := [9]) (by kernel_rfl) (by simp) ?_
  refine AllReadyH.cons (o := { dst := some 28, op := Op.call { callee := Callee.value (Operand.func 103), args := #[Operand.tmp 27], argTypes := #[23] }, type := 3, pos := "ref.go:212", after := #[{ on := 8, ground := Ground.data }], guard := none }) rfl (fun K hK => ?_) AllReadyH.nil
  go_simp
  refine (refStep_any _ _ _ _ (by omega) (by omega)).mono ?_
  rintro e w3 ⟨rfl, hb3⟩
  obtain ⟨hc3, hf3⟩ := bcell hb3
  have s3 : w2.heap.size ≤ w3.heap.size := hb3.size
  have G3 := Lib.hid (keepF (show Below w2.heap.size w2 w3 from ⟨hb3.os, hb3.tape, hb3.output, hb3.size, hb3.block⟩) (by omega) G2.out.1 G2.out.2)
  go_wp2_with fail
  refine hK.out _ _ ?_ (fun hHeld9 => ?_)
  · (obtain ⟨q0, q1, q2⟩ := hHeld; exact ⟨(hb3.cell (p := ⟨w.heap.size, 0, none⟩) (by simp; omega)).trans q0, (hb3.cell (p := ⟨w.heap.size, 1, none⟩) (by simp; omega)).trans q1, (hb3.cell (p := ⟨w.heap.size, 2, none⟩) (by simp; omega)).trans q2⟩)
  clear hK K hHeld
  have hHeld := hHeld9
  clear hHeld9
  try simp only [Act.put, List.setIfInBounds_toArray, List.set_cons_zero, List.set_cons_succ]
  refine wpAnyH_ready (rs := [13]) (by kernel_rfl) (by simp) ?_
  refine AllReadyH.cons (o := { dst := some 32, op := Op.call { callee := Callee.value (Operand.func 113), args := #[Operand.tmp 22, Operand.tmp 26, Operand.tmp 28, Operand.tmp 31], argTypes := #[3, 3, 3, 4] }, type := 25, pos := "ref.go:212", after := #[{ on := 3, ground := Ground.data }, { on := 7, ground := Ground.data }, { on := 9, ground := Ground.data }, { on := 12, ground := Ground.data }, { on := 9, ground := Ground.chain }], guard := none }) rfl (fun K hK => ?_) AllReadyH.nil
  go_simp
  refine (hm.out _).mono ?_
  rintro e w4 ⟨rfl, hb4⟩
  obtain ⟨hc4, hf4⟩ := bcell hb4
  have s4 : w3.heap.size ≤ w4.heap.size := hb4.size
  have G4 := Lib.hid (keepF (show Below w3.heap.size w3 w4 from ⟨hb4.os, hb4.tape, hb4.output, hb4.size, hb4.block⟩) (by omega) G3.out.1 G3.out.2)
  obtain ⟨⟨g0, g1, g2⟩, f0, f1, f2⟩ := G4.out
  go_wp2_with fail
  refine hK.out _ _ ?_ (fun hHeld13 => ?_)
  · (obtain ⟨q0, q1, q2⟩ := hHeld; exact ⟨(hb4.cell (p := ⟨w.heap.size, 0, none⟩) (by simp; omega)).trans q0, (hb4.cell (p := ⟨w.heap.size, 1, none⟩) (by simp; omega)).trans q1, (hb4.cell (p := ⟨w.heap.size, 2, none⟩) (by simp; omega)).trans q2⟩)
  clear hK K hHeld
  have hHeld := hHeld13
  clear hHeld13
  try simp only [Act.put, List.setIfInBounds_toArray, List.set_cons_zero, List.set_cons_succ]
  refine wpAnyH_take (i := 14) (oi := { dst := some 33, op := Op.extract (Operand.tmp 32) 0, type := 23, pos := "ref.go:212", after := #[{ on := 13, ground := Ground.data }], guard := none }) (v := ?_) rfl (by kernel_rfl) (by kernel_rfl) (by kernel_rfl) (fun _ _ _ h => h) (Or.inl ⟨by rfl, ?_⟩) (by assumption) ?_
  rotate_left
  · (intro w hSw; (try dsimp only at hSw); go_simp; first | done | with_reducible rfl)
  try simp only [Act.put, List.setIfInBounds_toArray, List.set_cons_zero, List.set_cons_succ]
  refine wpAnyH_take (i := 15) (oi := { dst := some 34, op := Op.extract (Operand.tmp 32) 1, type := 24, pos := "ref.go:212", after := #[{ on := 13, ground := Ground.data }], guard := none }) (v := ?_) rfl (by kernel_rfl) (by kernel_rfl) (by kernel_rfl) (fun _ _ _ h => h) (Or.inl ⟨by rfl, ?_⟩) (by assumption) ?_
  rotate_left
  · (intro w hSw; (try dsimp only at hSw); go_simp; first | done | with_reducible rfl)
  try simp only [Act.put, List.setIfInBounds_toArray, List.set_cons_zero, List.set_cons_succ]
  refine wpAnyH_ready (rs := [16]) (by kernel_rfl) (by simp) ?_
  refine AllReadyH.cons (o := { dst := none, op := Op.store 23 (Operand.tmp 4) (Operand.tmp 33), type := 0, pos := "ref.go:212", after := #[{ on := 14, ground := Ground.data }, { on := 13, ground := Ground.chain }, { on := 0, ground := Ground.phase }, { on := 1, ground := Ground.phase }, { on := 2, ground := Ground.phase }, { on := 3, ground := Ground.phase }, { on := 4, ground := Ground.phase }, { on := 5, ground := Ground.phase }, { on := 6, ground := Ground.phase }, { on := 7, ground := Ground.phase }, { on := 8, ground := Ground.phase }, { on := 9, ground := Ground.phase }, { on := 10, ground := Ground.phase }, { on := 11, ground := Ground.phase }, { on := 12, ground := Ground.phase }, { on := 13, ground := Ground.phase }, { on := 14, ground := Ground.phase }, { on := 15, ground := Ground.phase }], guard := none }) rfl (fun K hK => ?_) AllReadyH.nil
  go_simp
  refine hK.out _ _ ?_ (fun hHeld16 => ?_)
  · go_keep
  clear hK K hHeld
  have hHeld := hHeld16
  clear hHeld16
  try simp only [Act.put, List.setIfInBounds_toArray, List.set_cons_zero, List.set_cons_succ]
  refine wpAnyH_take (i := 17) (oi := { dst := some 5, op := Op.assign (Operand.tmp 34), type := 24, pos := "ref.go:212", after := #[{ on := 15, ground := Ground.data }, { on := 16, ground := Ground.chain }, { on := 0, ground := Ground.phase }, { on := 1, ground := Ground.phase }, { on := 2, ground := Ground.phase }, { on := 3, ground := Ground.phase }, { on := 4, ground := Ground.phase }, { on := 5, ground := Ground.phase }, { on := 6, ground := Ground.phase }, { on := 7, ground := Ground.phase }, { on := 8, ground := Ground.phase }, { on := 9, ground := Ground.phase }, { on := 10, ground := Ground.phase }, { on := 11, ground := Ground.phase }, { on := 12, ground := Ground.phase }, { on := 13, ground := Ground.phase }, { on := 14, ground := Ground.phase }, { on := 15, ground := Ground.phase }, { on := 16, ground := Ground.phase }], guard := none }) (v := ?_) rfl (by kernel_rfl) (by kernel_rfl) (by kernel_rfl) (fun _ _ _ h => h) (Or.inl ⟨by rfl, ?_⟩) (by assumption) ?_
  rotate_left
  · (intro w hSw; (try dsimp only at hSw); go_simp; first | done | with_reducible rfl)
  try simp only [Act.put, List.setIfInBounds_toArray, List.set_cons_zero, List.set_cons_succ]
  refine wpAnyH_done (by kernel_rfl) ?_ _
  have Wa := W2.out.drew.trans (hb3.mono (by simp; omega))
  have Wa := Wa.trans (hb4.mono (by omega))
  have W := Lib.hid Wa
  clear Wa hHeld hb3 hc3 hf3 hb4 hc4 hf4 W2
  go_wp2
  refine bodyPost_ret (v := (.tuple #[.agg #[.int .i64 a, .int .i64 b, .int .i64 c], .int .i64 e])) (by simp [results, Try.results33, go_sem, *]) rfl ⟨rfl, ?_⟩
  repeat (first | exact W.out | refine Below.setCell ?_ (by simp; try omega) _)

end Go.Proofs.Ytdifilndpilboaa
