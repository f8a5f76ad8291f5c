/-
  The contracts of span's closures and of moved.
-/
import Derived.Test.YtdifilndpilboaaRefE
import Derived.WalkKit
import Derived.WalkSpells
import Derived.WalkLawsBesides
import Derived.BigQuiet
import Derived.Deep.QuietTactic
import Derived.Deep.RegionHeld3
import Derived.Deep.DrawnRows
import Derived.Lib.Hide
namespace Go.Proofs.Ytdifilndpilboaa
open Go.RowKit

def byDn (dn : Bool) (n : Int) : Bool := !dn == decide (n < 0)
def byLo (l h m : Int) (dn : Bool) (n : Int) : Int := if byDn dn n = true then l + (h - l) % (m * magA n) else l
def byHi (l h m : Int) (dn : Bool) (n : Int) : Int := if byDn dn n = true then h else h - (h - l) % (m * magA n)

theorem mul_le (a b A B : Int) (h0 : 1 ≤ a) (h1 : a ≤ A) (h2 : 1 ≤ b) (h3 : b ≤ B) : 1 ≤ a * b ∧ a * b ≤ A * B := by
  have e1 : 1 * 1 ≤ a * b := Int.mul_le_mul h0 h2 (by omega) (by omega)
  have e2 : a * b ≤ A * B := Int.mul_le_mul h1 h3 (by omega) (by omega)
  omega

set_option maxHeartbeats 1600000 in
theorem byClo (l h m n : Int) (dn : Bool) (b o : Nat) (w : World) (hc : w.cell? ⟨b, o, none⟩ = some (.int .i64 n)) (h0 : -1000000 ≤ l) (h1 : l ≤ h) (h2 : h ≤ 1000000) (h3 : 1 ≤ m) (h4 : m ≤ 2000000) (h5 : ¬ n = 0) (h6 : -1000000 ≤ n) (h7 : n ≤ 1000000) :
    Calls Try.prog 109 #[.agg #[.int .i64 l, .int .i64 h, .int .i64 m, .bool dn], .pointer (some ⟨b, o, none⟩)] w fun e w' => e = .returned (.agg #[.int .i64 (byLo l h m dn n), .int .i64 (byHi l h m dn n), .int .i64 (m * magA n), .bool (byDn dn n)]) ∧ Below w.heap.size w w' := by
  have hb : b < w.heap.size := World.block_lt_of_cell? w _ hc
  have hne : b ≠ w.heap.size := by omega
  have hne1 : b ≠ w.heap.size + 1 := by omega
  have m1 : 1 ≤ magA n := by unfold magA; split <;> omega
  have m2 : magA n ≤ 1000000 := by unfold magA; split <;> omega
  have p := mul_le m (magA n) 2000000 1000000 h3 h4 m1 m2
  have r := rem_bd (h - l) (m * magA n) (by omega) p.1
  have k1 : IntKind.i64.wrap (magA n) = magA n := IntWalk.i64_in _ (by omega)
  have k2 : IntKind.i64.wrap (m * magA n) = m * magA n := IntWalk.i64_in _ (by omega)
  have hd : byDn dn n = (!dn == decide (n < 0)) := rfl
  rcases hq : byDn dn n with _ | _
  · rw [hq] at hd
    have E := Lib.hid (show byLo l h m dn n = l ∧ byHi l h m dn n = h - (h - l) % (m * magA n) from ⟨by unfold byLo; rw [hq]; rfl, by unfold byHi; rw [hq]; rfl⟩)
    rw [E.out.1, E.out.2]
    have hd' := hd.symm
    clear hq hd
    go_enter Try.func109, Try.ntmps109
    go_wp2_with fail
    refine wp_region_held_drew (S := (fun w' => w'.cell? ⟨w.heap.size, 0, none⟩ = some (.int .i64 l) ∧ w'.cell? ⟨w.heap.size, 1, none⟩ = some (.int .i64 h) ∧ w'.cell? ⟨w.heap.size, 2, none⟩ = some (.int .i64 m) ∧ w'.cell? ⟨b, o, none⟩ = some (.int .i64 n))) (by kernel_rfl) ?_ (fun hHeld => ?_)
    · first | go_keep
    refine wpAnyH_take (i := 0) (oi := { dst := some 9, op := Op.fieldAddr 95 (Operand.tmp 2) 2, type := 0, pos := "span.go:124", after := #[], guard := none }) (v := ?_) rfl (by kernel_rfl) (by kernel_rfl) (by kernel_rfl) (fun _ _ _ h => h) (Or.inl ⟨by rfl, ?_⟩) (by assumption) ?_
    rotate_left
    · (intro w hSw; (try dsimp only at hSw); go_simp; first | done | with_reducible rfl)
    try simp only [Act.put, List.setIfInBounds_toArray, List.set_cons_zero, List.set_cons_succ]
    refine wpAnyH_take (i := 1) (oi := { dst := some 10, op := Op.load 3 (Operand.tmp 9), type := 3, pos := "span.go:124", after := #[{ on := 0, ground := Ground.data }], guard := none }) (v := ?_) rfl (by kernel_rfl) (by kernel_rfl) (by kernel_rfl) (fun _ _ _ h => h) (Or.inl ⟨by rfl, ?_⟩) (by assumption) ?_
    rotate_left
    · (intro w hSw; (try dsimp only at hSw); go_simp; first | done | with_reducible rfl)
    try simp only [Act.put, List.setIfInBounds_toArray, List.set_cons_zero, List.set_cons_succ]
    refine wpAnyH_take (i := 2) (oi := { dst := some 11, op := Op.load 3 (Operand.tmp 1), type := 3, pos := "span.go:124", after := #[], guard := none }) (v := ?_) rfl (by kernel_rfl) (by kernel_rfl) (by kernel_rfl) (fun _ _ _ h => h) (Or.inl ⟨by rfl, ?_⟩) (by assumption) ?_
    rotate_left
    · (intro w hSw; (try dsimp only at hSw); go_simp; first | done | with_reducible rfl)
    try simp only [Act.put, List.setIfInBounds_toArray, List.set_cons_zero, List.set_cons_succ]
    refine wpAnyH_ready (rs := [3]) (by kernel_rfl) (by simp) ?_
    refine AllReadyH.cons (o := { dst := some 12, op := Op.call { callee := Callee.value (Operand.func 95), args := #[Operand.tmp 11], argTypes := #[3] }, type := 92, pos := "span.go:124", after := #[{ on := 2, ground := Ground.data }], guard := none }) rfl (fun K hK => ?_) AllReadyH.nil
    go_simp
    refine (magnitude_any _ _ (by omega) (by omega)).mono ?_
    rintro e w' ⟨rfl, rfl⟩
    go_wp2_with fail
    refine hK.out _ _ ?_ (fun hHeld3 => ?_)
    · first | go_keep
    clear hK K hHeld
    have hHeld := hHeld3
    clear hHeld3
    try simp only [Act.put, List.setIfInBounds_toArray, List.set_cons_zero, List.set_cons_succ]
    refine wpAnyH_take (i := 4) (oi := { dst := some 13, op := Op.convert 92 3 (Operand.tmp 12), type := 3, pos := "span.go:124", after := #[{ on := 3, ground := Ground.data }], guard := none }) (v := ?_) rfl (by kernel_rfl) (by kernel_rfl) (by kernel_rfl) (fun _ _ _ h => h) (Or.inl ⟨by rfl, ?_⟩) (by assumption) ?_
    rotate_left
    · (intro w hSw; (try dsimp only at hSw); go_simp; first | done | with_reducible rfl)
    try simp only [Act.put, List.setIfInBounds_toArray, List.set_cons_zero, List.set_cons_succ]
    refine wpAnyH_take (i := 5) (oi := { dst := some 14, op := Op.binOp BinOp.mul 3 (Operand.tmp 10) (Operand.tmp 13) 3, type := 3, pos := "span.go:124", after := #[{ on := 1, ground := Ground.data }, { on := 4, ground := Ground.data }], guard := none }) (v := ?_) rfl (by kernel_rfl) (by kernel_rfl) (by kernel_rfl) (fun _ _ _ h => h) (Or.inl ⟨by rfl, ?_⟩) (by assumption) ?_
    rotate_left
    · (intro w hSw; (try dsimp only at hSw); go_simp; first | done | with_reducible rfl)
    try simp only [Act.put, List.setIfInBounds_toArray, List.set_cons_zero, List.set_cons_succ]
    refine wpAnyH_take (i := 6) (oi := { dst := some 5, op := Op.assign (Operand.tmp 14), type := 3, pos := "span.go:124", after := #[{ on := 5, ground := Ground.data }, { on := 3, ground := Ground.chain }, { on := 0, ground := Ground.phase }, { on := 1, ground := Ground.phase }, { on := 2, ground := Ground.phase }, { on := 3, ground := Ground.phase }, { on := 4, ground := Ground.phase }, { on := 5, ground := Ground.phase }], guard := none }) (v := ?_) rfl (by kernel_rfl) (by kernel_rfl) (by kernel_rfl) (fun _ _ _ h => h) (Or.inl ⟨by rfl, ?_⟩) (by assumption) ?_
    rotate_left
    · (intro w hSw; (try dsimp only at hSw); go_simp; first | done | with_reducible rfl)
    try simp only [Act.put, List.setIfInBounds_toArray, List.set_cons_zero, List.set_cons_succ]
    refine wpAnyH_done (by kernel_rfl) ?_ _
    clear k1 k2 hHeld
    go_wp2
    refine bodyPost_ret (v := .agg #[.int .i64 l, .int .i64 (h - (h - l) % (m * magA n)), .int .i64 (m * magA n), .bool false]) (by simp [results, Try.results109, go_sem, *]) rfl ⟨rfl, ?_⟩
    repeat (first | exact Below.refl _ _ | refine Below.alloc ?_ (by simp; try omega) _ | refine Below.setCell ?_ (by simp; try omega) _ | refine Below.drew ?_)
  · rw [hq] at hd
    have E := Lib.hid (show byLo l h m dn n = l + (h - l) % (m * magA n) ∧ byHi l h m dn n = h from ⟨by unfold byLo; rw [hq]; rfl, by unfold byHi; rw [hq]; rfl⟩)
    rw [E.out.1, E.out.2]
    have hd' := hd.symm
    clear hq hd
    go_enter Try.func109, Try.ntmps109
    go_wp2_with fail
    refine wp_region_held_drew (S := (fun w' => w'.cell? ⟨w.heap.size, 0, none⟩ = some (.int .i64 l) ∧ w'.cell? ⟨w.heap.size, 1, none⟩ = some (.int .i64 h) ∧ w'.cell? ⟨w.heap.size, 2, none⟩ = some (.int .i64 m) ∧ w'.cell? ⟨b, o, none⟩ = some (.int .i64 n))) (by kernel_rfl) ?_ (fun hHeld => ?_)
    · first | go_keep
    refine wpAnyH_take (i := 0) (oi := { dst := some 9, op := Op.fieldAddr 95 (Operand.tmp 2) 2, type := 0, pos := "span.go:124", after := #[], guard := none }) (v := ?_) rfl (by kernel_rfl) (by kernel_rfl) (by kernel_rfl) (fun _ _ _ h => h) (Or.inl ⟨by rfl, ?_⟩) (by assumption) ?_
    rotate_left
    · (intro w hSw; (try dsimp only at hSw); go_simp; first | done | with_reducible rfl)
    try simp only [Act.put, List.setIfInBounds_toArray, List.set_cons_zero, List.set_cons_succ]
    refine wpAnyH_take (i := 1) (oi := { dst := some 10, op := Op.load 3 (Operand.tmp 9), type := 3, pos := "span.go:124", after := #[{ on := 0, ground := Ground.data }], guard := none }) (v := ?_) rfl (by kernel_rfl) (by kernel_rfl) (by kernel_rfl) (fun _ _ _ h => h) (Or.inl ⟨by rfl, ?_⟩) (by assumption) ?_
    rotate_left
    · (intro w hSw; (try dsimp only at hSw); go_simp; first | done | with_reducible rfl)
    try simp only [Act.put, List.setIfInBounds_toArray, List.set_cons_zero, List.set_cons_succ]
    refine wpAnyH_take (i := 2) (oi := { dst := some 11, op := Op.load 3 (Operand.tmp 1), type := 3, pos := "span.go:124", after := #[], guard := none }) (v := ?_) rfl (by kernel_rfl) (by kernel_rfl) (by kernel_rfl) (fun _ _ _ h => h) (Or.inl ⟨by rfl, ?_⟩) (by assumption) ?_
    rotate_left
    · (intro w hSw; (try dsimp only at hSw); go_simp; first | done | with_reducible rfl)
    try simp only [Act.put, List.setIfInBounds_toArray, List.set_cons_zero, List.set_cons_succ]
    refine wpAnyH_ready (rs := [3]) (by kernel_rfl) (by simp) ?_
    refine AllReadyH.cons (o := { dst := some 12, op := Op.call { callee := Callee.value (Operand.func 95), args := #[Operand.tmp 11], argTypes := #[3] }, type := 92, pos := "span.go:124", after := #[{ on := 2, ground := Ground.data }], guard := none }) rfl (fun K hK => ?_) AllReadyH.nil
    go_simp
    refine (magnitude_any _ _ (by omega) (by omega)).mono ?_
    rintro e w' ⟨rfl, rfl⟩
    go_wp2_with fail
    refine hK.out _ _ ?_ (fun hHeld3 => ?_)
    · first | go_keep
    clear hK K hHeld
    have hHeld := hHeld3
    clear hHeld3
    try simp only [Act.put, List.setIfInBounds_toArray, List.set_cons_zero, List.set_cons_succ]
    refine wpAnyH_take (i := 4) (oi := { dst := some 13, op := Op.convert 92 3 (Operand.tmp 12), type := 3, pos := "span.go:124", after := #[{ on := 3, ground := Ground.data }], guard := none }) (v := ?_) rfl (by kernel_rfl) (by kernel_rfl) (by kernel_rfl) (fun _ _ _ h => h) (Or.inl ⟨by rfl, ?_⟩) (by assumption) ?_
    rotate_left
    · (intro w hSw; (try dsimp only at hSw); go_simp; first | done | with_reducible rfl)
    try simp only [Act.put, List.setIfInBounds_toArray, List.set_cons_zero, List.set_cons_succ]
    refine wpAnyH_take (i := 5) (oi := { dst := some 14, op := Op.binOp BinOp.mul 3 (Operand.tmp 10) (Operand.tmp 13) 3, type := 3, pos := "span.go:124", after := #[{ on := 1, ground := Ground.data }, { on := 4, ground := Ground.data }], guard := none }) (v := ?_) rfl (by kernel_rfl) (by kernel_rfl) (by kernel_rfl) (fun _ _ _ h => h) (Or.inl ⟨by rfl, ?_⟩) (by assumption) ?_
    rotate_left
    · (intro w hSw; (try dsimp only at hSw); go_simp; first | done | with_reducible rfl)
    try simp only [Act.put, List.setIfInBounds_toArray, List.set_cons_zero, List.set_cons_succ]
    refine wpAnyH_take (i := 6) (oi := { dst := some 5, op := Op.assign (Operand.tmp 14), type := 3, pos := "span.go:124", after := #[{ on := 5, ground := Ground.data }, { on := 3, ground := Ground.chain }, { on := 0, ground := Ground.phase }, { on := 1, ground := Ground.phase }, { on := 2, ground := Ground.phase }, { on := 3, ground := Ground.phase }, { on := 4, ground := Ground.phase }, { on := 5, ground := Ground.phase }], guard := none }) (v := ?_) rfl (by kernel_rfl) (by kernel_rfl) (by kernel_rfl) (fun _ _ _ h => h) (Or.inl ⟨by rfl, ?_⟩) (by assumption) ?_
    rotate_left
    · (intro w hSw; (try dsimp only at hSw); go_simp; first | done | with_reducible rfl)
    try simp only [Act.put, List.setIfInBounds_toArray, List.set_cons_zero, List.set_cons_succ]
    refine wpAnyH_done (by kernel_rfl) ?_ _
    clear k1 k2 hHeld
    go_wp2
    refine bodyPost_ret (v := .agg #[.int .i64 (l + (h - l) % (m * magA n)), .int .i64 h, .int .i64 (m * magA n), .bool true]) (by simp [results, Try.results109, go_sem, *]) rfl ⟨rfl, ?_⟩
    repeat (first | exact Below.refl _ _ | refine Below.alloc ?_ (by simp; try omega) _ | refine Below.setCell ?_ (by simp; try omega) _ | refine Below.drew ?_)
end Go.Proofs.Ytdifilndpilboaa
