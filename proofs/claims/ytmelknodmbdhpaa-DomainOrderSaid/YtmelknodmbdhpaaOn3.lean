/-
  Part 3: AlgC, AlgN, PairM.
-/
import Derived.Test.YtmelknodmbdhpaaOn2
import Derived.BigQuiet
import Derived.BigRegion
import Derived.Deep.DrawnRows
import Derived.Deep.QuietTactic
import Derived.Deep.RegionHeld3
import Derived.Lib.Hide
import Derived.WalkKit
import Derived.WalkLawsBesides
import Derived.WalkSpells
namespace Go.Proofs.Ytmelknodmbdhpaa
open Go.RowKit
theorem alloc_cell (w : World) (o : Obj) {a : Addr} (h : a.block < w.heap.size) : (w.alloc o).cell? a = w.cell? a := ((Below.refl w.heap.size w).alloc (Nat.le_refl _) o).cell h
theorem alloc_frozen (w : World) (o : Obj) {a : Addr} (h : a.block < w.heap.size) : (w.alloc o).frozen? a = w.frozen? a := ((Below.refl w.heap.size w).alloc (Nat.le_refl _) o).frozen h
theorem prod_small (k x : Int) (h1 : -2000000 ≤ k) (h2 : k ≤ 2000000) (h3 : -4000001 ≤ x) (h4 : x ≤ 4000001) : -9000000000000 ≤ k * x ∧ k * x ≤ 9000000000000 := by
  by_cases x0 : 0 ≤ x
  · have e1 : k * x ≤ 2000000 * x := Int.mul_le_mul_of_nonneg_right h2 x0
    have e2 : -2000000 * x ≤ k * x := Int.mul_le_mul_of_nonneg_right h1 x0
    omega
  · have e1 : 2000000 * x ≤ k * x := Int.mul_le_mul_of_nonpos_right h2 (by omega)
    have e2 : k * x ≤ -2000000 * x := Int.mul_le_mul_of_nonpos_right h1 (by omega)
    omega
theorem prod_small2 (t s : Int) (h1 : 0 ≤ t) (h2 : t ≤ 2000000) (h3 : 0 ≤ s) (h4 : s ≤ 2000000) : 0 ≤ t * s ∧ t * s ≤ 4000000000000 := by
  have e1 : 0 ≤ t * s := Int.mul_nonneg h1 h3
  have e2 : t * s ≤ 2000000 * s := Int.mul_le_mul_of_nonneg_right h2 h3
  omega
/-- a progression with the common numbers of two -/
def Common (l1 h1 s1 l2 h2 s2 L H S : Int) : Prop :=
  1 ≤ S ∧ S ≤ 4000000000000 ∧ -5000000000000 ≤ L ∧ L ≤ 5000000000000 ∧ -5000000000000 ≤ H ∧ H ≤ 5000000000000 ∧ (L ≤ H → S ∣ H - L) ∧ ∀ n, Mem L H S n ↔ Mem l1 h1 s1 n ∧ Mem l2 h2 s2 n
/-- what common returns, with the direction -/
def CommonDir (l1 h1 s1 l2 h2 s2 : Int) (dn1 : Bool) (w : World) : Ending → World → Prop := fun e w' => ∃ (L H S : Int) (dn : Bool), (Common l1 h1 s1 l2 h2 s2 L H S ∧ (L ≤ H → dn = dn1)) ∧ e = .returned (.agg #[.int .i64 L, .int .i64 H, .int .i64 S, .bool dn]) ∧ Below w.heap.size w w'
theorem res4 {w w1 : World} {t : TypeId} {a b c d a' b' c' d' p q r s : Value} (hb : Below (((w.alloc (.cells #[a, b, c, d] t)).alloc (.cells #[a', b', c', d'] t)).alloc (.cells #[p, q, r, s] t)).heap.size (((w.alloc (.cells #[a, b, c, d] t)).alloc (.cells #[a', b', c', d'] t)).alloc (.cells #[p, q, r, s] t)) w1) :
    Hid (Below w.heap.size w w1) ∧ w.heap.size + 2 < w1.heap.size ∧
      (w1.cell? ⟨w.heap.size, 0, none⟩ = some a ∧ w1.cell? ⟨w.heap.size, 1, none⟩ = some b ∧ w1.cell? ⟨w.heap.size, 2, none⟩ = some c ∧ w1.cell? ⟨w.heap.size, 3, none⟩ = some d) ∧
      (w1.cell? ⟨w.heap.size + 1, 0, none⟩ = some a' ∧ w1.cell? ⟨w.heap.size + 1, 1, none⟩ = some b' ∧ w1.cell? ⟨w.heap.size + 1, 2, none⟩ = some c') ∧
      (w1.cell? ⟨w.heap.size + 1 + 1, 0, none⟩ = some p ∧ w1.cell? ⟨w.heap.size + 1 + 1, 1, none⟩ = some q ∧ w1.cell? ⟨w.heap.size + 1 + 1, 2, none⟩ = some r ∧ w1.cell? ⟨w.heap.size + 1 + 1, 3, none⟩ = some s) ∧
      (w1.frozen? ⟨w.heap.size + 1 + 1, 0, none⟩ = false ∧ w1.frozen? ⟨w.heap.size + 1 + 1, 1, none⟩ = false ∧ w1.frozen? ⟨w.heap.size + 1 + 1, 2, none⟩ = false ∧ w1.frozen? ⟨w.heap.size + 1 + 1, 3, none⟩ = false) := by
  have hs : w.heap.size + 1 + 1 < (((w.alloc (.cells #[a, b, c, d] t)).alloc (.cells #[a', b', c', d'] t)).alloc (.cells #[p, q, r, s] t)).heap.size := by simp
  have hs0 : w.heap.size < (((w.alloc (.cells #[a, b, c, d] t)).alloc (.cells #[a', b', c', d'] t)).alloc (.cells #[p, q, r, s] t)).heap.size := by simp <;> omega
  have hs1 : w.heap.size + 1 < (((w.alloc (.cells #[a, b, c, d] t)).alloc (.cells #[a', b', c', d'] t)).alloc (.cells #[p, q, r, s] t)).heap.size := by simp <;> omega
  refine ⟨((((Below.refl _ _).alloc (Nat.le_refl _) _).alloc (by simp) _).alloc (by simp; omega) _).trans (hb.mono (by omega)), Nat.lt_of_lt_of_le hs hb.size, ⟨?_, ?_, ?_, ?_⟩, ⟨?_, ?_, ?_⟩, ⟨?_, ?_, ?_, ?_⟩, ?_, ?_, ?_, ?_⟩
  · rw [hb.cell (p := ⟨w.heap.size, 0, none⟩) hs0]; simp [go_sem]
  · rw [hb.cell (p := ⟨w.heap.size, 1, none⟩) hs0]; simp [go_sem]
  · rw [hb.cell (p := ⟨w.heap.size, 2, none⟩) hs0]; simp [go_sem]
  · rw [hb.cell (p := ⟨w.heap.size, 3, none⟩) hs0]; simp [go_sem]
  · rw [hb.cell (p := ⟨w.heap.size + 1, 0, none⟩) hs1]; simp [go_sem]
  · rw [hb.cell (p := ⟨w.heap.size + 1, 1, none⟩) hs1]; simp [go_sem]
  · rw [hb.cell (p := ⟨w.heap.size + 1, 2, none⟩) hs1]; simp [go_sem]
  · rw [hb.cell (p := ⟨w.heap.size + 1 + 1, 0, none⟩) hs]; simp [go_sem]
  · rw [hb.cell (p := ⟨w.heap.size + 1 + 1, 1, none⟩) hs]; simp [go_sem]
  · rw [hb.cell (p := ⟨w.heap.size + 1 + 1, 2, none⟩) hs]; simp [go_sem]
  · rw [hb.cell (p := ⟨w.heap.size + 1 + 1, 3, none⟩) hs]; simp [go_sem]
  · rw [hb.frozen (p := ⟨w.heap.size + 1 + 1, 0, none⟩) hs]; simp [go_sem]
  · rw [hb.frozen (p := ⟨w.heap.size + 1 + 1, 1, none⟩) hs]; simp [go_sem]
  · rw [hb.frozen (p := ⟨w.heap.size + 1 + 1, 2, none⟩) hs]; simp [go_sem]
  · rw [hb.frozen (p := ⟨w.heap.size + 1 + 1, 3, none⟩) hs]; simp [go_sem]
set_option maxHeartbeats 3200000 in
theorem common_dir (l1 h1 s1 l2 h2 s2 : Int) (dn dn2 : Bool) (w : World) (a1 : -1000000 ≤ l1) (a2 : l1 ≤ 1000000) (a3 : -1000000 ≤ h1) (a4 : h1 ≤ 1000000) (a5 : 1 ≤ s1) (a6 : s1 ≤ 2000000) (c1 : -1000000 ≤ l2) (c2 : l2 ≤ 1000000) (c3 : -1000000 ≤ h2) (c4 : h2 ≤ 1000000) (c5 : 1 ≤ s2) (c6 : s2 ≤ 2000000) :
    Calls Try.prog 127 #[.agg #[.int .i64 l1, .int .i64 h1, .int .i64 s1, .bool dn], .agg #[.int .i64 l2, .int .i64 h2, .int .i64 s2, .bool dn2]] w (CommonDir l1 h1 s1 l2 h2 s2 dn w) := by
  go_enter Try.func127, Try.ntmps127
  go_wp2_with fail
  refine (euclid_any _ _ _ (by omega) (by omega) (by omega) (by omega)).mono ?_
  rintro e w1 ⟨d, x, g, rfl, hb1⟩
  obtain ⟨W1, z1, ⟨x0, x1, x2, x3⟩, ⟨y0, y1, y2⟩, ⟨r0, r1, r2, r3⟩, f0, f1, f2, f3⟩ := res4 hb1
  have G := Lib.hid g
  have d1 := g.pos a5
  have d2 := g.le a5
  have d3 := g.le' c5
  have xb1 := g.x1
  have xb2 := g.x2
  clear hb1 g
  by_cases hd : d ∣ l2 - l1
  · obtain ⟨k, hk⟩ := hd
    have HK := Lib.hid hk
    have hz : ((l2 - l1).tmod d != 0) = false := by rw [HK.out]; simp
    have kb : -2000000 ≤ k ∧ k ≤ 2000000 := by
      have e1 : d * k ≤ 2000000 := by omega
      have e2 : -2000000 ≤ d * k := by omega
      by_cases k0 : 0 ≤ k
      · have : 1 * k ≤ d * k := Int.mul_le_mul_of_nonneg_right d1 k0
        omega
      · have : d * k ≤ 1 * k := Int.mul_le_mul_of_nonpos_right d1 (by omega)
        omega
    have kx : -9000000000000 ≤ k * x ∧ k * x ≤ 9000000000000 := prod_small k x kb.1 kb.2 xb1 xb2
    have k1 : IntKind.i64.wrap ((l2 - l1).tdiv d) = k := by rw [HK.out, Int.mul_tdiv_cancel_left _ (by omega)]; exact IntWalk.i64_in _ (by omega)
    have k2 : IntKind.i64.wrap (k * x) = k * x := IntWalk.i64_in _ (by omega)
    have q2 := quo_bd s2 d (by omega) d1
    have q3 : 1 ≤ s2 / d := by
      obtain ⟨b', hb'⟩ := G.out.db
      rw [Int.ediv_eq_of_eq_mul_right (by omega) hb']
      by_cases c : 1 ≤ b'
      · exact c
      · have : d * b' ≤ d * 0 := Int.mul_le_mul_of_nonneg_left (by omega) (by omega)
        omega
    have k3 : IntKind.i64.wrap (s2.tdiv d) = s2 / d := IntWalk.i64_quo _ _ ⟨by omega, by omega, d1⟩
    have dz : ¬ d = 0 := by omega
    have t1 := Int.emod_nonneg (k * x) (show s2 / d ≠ 0 by omega)
    have t2 := Int.emod_lt_of_pos (k * x) (show 0 < s2 / d by omega)
    clear hk
    go_wp2_with fail
    refine wp_region_held_drew (S := (fun w' => w'.cell? ⟨w.heap.size, 0, none⟩ = some (.int .i64 l1) ∧ w'.cell? ⟨w.heap.size, 1, none⟩ = some (.int .i64 h1) ∧ w'.cell? ⟨w.heap.size, 2, none⟩ = some (.int .i64 s1) ∧ w'.cell? ⟨w.heap.size, 3, none⟩ = some (.bool dn) ∧ w'.cell? ⟨w.heap.size + 1, 0, none⟩ = some (.int .i64 l2) ∧ w'.cell? ⟨w.heap.size + 1, 1, none⟩ = some (.int .i64 h2) ∧ w'.cell? ⟨w.heap.size + 1, 2, none⟩ = some (.int .i64 s2))) (by kernel_rfl) ?_ (fun hHeld => ?_)
    · first | exact ⟨x0, x1, x2, x3, y0, y1, y2⟩ | exact hHeld | (simp [go_sem, *]; done) | go_keep
    refine wpAnyH_take (i := 0) (oi := { dst := some 31, op := Op.move (Operand.tmp 7), type := 3, pos := "sets.go:93", after := #[], guard := none }) (v := ?_) rfl (by kernel_rfl) (by kernel_rfl) (by kernel_rfl) (fun _ _ _ h => h) (Or.inl ⟨by rfl, ?_⟩) (by assumption) ?_
    rotate_left
    · (intro w hSw; (try dsimp only at hSw); go_simp; first | done | with_reducible rfl)
    try simp only [Act.put, List.setIfInBounds_toArray, List.set_cons_zero, List.set_cons_succ]
    refine wpAnyH_take (i := 1) (oi := { dst := some 32, op := Op.move (Operand.tmp 5), type := 3, pos := "sets.go:93", after := #[], guard := none }) (v := ?_) rfl (by kernel_rfl) (by kernel_rfl) (by kernel_rfl) (fun _ _ _ h => h) (Or.inl ⟨by rfl, ?_⟩) (by assumption) ?_
    rotate_left
    · (intro w hSw; (try dsimp only at hSw); go_simp; first | done | with_reducible rfl)
    try simp only [Act.put, List.setIfInBounds_toArray, List.set_cons_zero, List.set_cons_succ]
    refine wpAnyH_take (i := 2) (oi := { dst := some 33, op := Op.binOp BinOp.quo 3 (Operand.tmp 31) (Operand.tmp 32) 3, type := 3, pos := "sets.go:93", after := #[{ on := 0, ground := Ground.data }, { on := 1, ground := Ground.data }], guard := none }) (v := ?_) rfl (by kernel_rfl) (by kernel_rfl) (by kernel_rfl) (fun _ _ _ h => h) (Or.inl ⟨by rfl, ?_⟩) (by assumption) ?_
    rotate_left
    · (intro w hSw; (try dsimp only at hSw); go_simp; first | done | with_reducible rfl)
    try simp only [Act.put, List.setIfInBounds_toArray, List.set_cons_zero, List.set_cons_succ]
    refine wpAnyH_take (i := 3) (oi := { dst := some 34, op := Op.move (Operand.tmp 6), type := 3, pos := "sets.go:93", after := #[], guard := none }) (v := ?_) rfl (by kernel_rfl) (by kernel_rfl) (by kernel_rfl) (fun _ _ _ h => h) (Or.inl ⟨by rfl, ?_⟩) (by assumption) ?_
    rotate_left
    · (intro w hSw; (try dsimp only at hSw); go_simp; first | done | with_reducible rfl)
    try simp only [Act.put, List.setIfInBounds_toArray, List.set_cons_zero, List.set_cons_succ]
    refine wpAnyH_take (i := 4) (oi := { dst := some 35, op := Op.binOp BinOp.mul 3 (Operand.tmp 33) (Operand.tmp 34) 3, type := 3, pos := "sets.go:93", after := #[{ on := 2, ground := Ground.data }, { on := 3, ground := Ground.data }], guard := none }) (v := ?_) rfl (by kernel_rfl) (by kernel_rfl) (by kernel_rfl) (fun _ _ _ h => h) (Or.inl ⟨by rfl, ?_⟩) (by assumption) ?_
    rotate_left
    · (intro w hSw; (try dsimp only at hSw); go_simp; first | done | with_reducible rfl)
    try simp only [Act.put, List.setIfInBounds_toArray, List.set_cons_zero, List.set_cons_succ]
    refine wpAnyH_take (i := 5) (oi := { dst := some 36, op := Op.fieldAddr 102 (Operand.tmp 3) 2, type := 0, pos := "sets.go:93", after := #[], guard := none }) (v := ?_) rfl (by kernel_rfl) (by kernel_rfl) (by kernel_rfl) (fun _ _ _ h => h) (Or.inl ⟨by rfl, ?_⟩) (by assumption) ?_
    rotate_left
    · (intro w hSw; (try dsimp only at hSw); go_simp; first | done | with_reducible rfl)
    try simp only [Act.put, List.setIfInBounds_toArray, List.set_cons_zero, List.set_cons_succ]
    refine wpAnyH_take (i := 6) (oi := { dst := some 37, op := Op.load 3 (Operand.tmp 36), type := 3, pos := "sets.go:93", after := #[{ on := 5, ground := Ground.data }], guard := none }) (v := ?_) rfl (by kernel_rfl) (by kernel_rfl) (by kernel_rfl) (fun _ _ _ h => h) (Or.inl ⟨by rfl, ?_⟩) (by assumption) ?_
    rotate_left
    · (intro w hSw; (try dsimp only at hSw); go_simp; first | done | with_reducible rfl)
    try simp only [Act.put, List.setIfInBounds_toArray, List.set_cons_zero, List.set_cons_succ]
    refine wpAnyH_take (i := 7) (oi := { dst := some 38, op := Op.move (Operand.tmp 5), type := 3, pos := "sets.go:93", after := #[], guard := none }) (v := ?_) rfl (by kernel_rfl) (by kernel_rfl) (by kernel_rfl) (fun _ _ _ h => h) (Or.inl ⟨by rfl, ?_⟩) (by assumption) ?_
    rotate_left
    · (intro w hSw; (try dsimp only at hSw); go_simp; first | done | with_reducible rfl)
    try simp only [Act.put, List.setIfInBounds_toArray, List.set_cons_zero, List.set_cons_succ]
    refine wpAnyH_take (i := 8) (oi := { dst := some 39, op := Op.binOp BinOp.quo 3 (Operand.tmp 37) (Operand.tmp 38) 3, type := 3, pos := "sets.go:93", after := #[{ on := 6, ground := Ground.data }, { on := 7, ground := Ground.data }], guard := none }) (v := ?_) rfl (by kernel_rfl) (by kernel_rfl) (by kernel_rfl) (fun _ _ _ h => h) (Or.inl ⟨by rfl, ?_⟩) (by assumption) ?_
    rotate_left
    · (intro w hSw; (try dsimp only at hSw); go_simp; first | done | with_reducible rfl)
    try simp only [Act.put, List.setIfInBounds_toArray, List.set_cons_zero, List.set_cons_succ]
    refine wpAnyH_ready (rs := [9]) (by kernel_rfl) (by simp) ?_
    refine AllReadyH.cons (o := { dst := some 40, op := Op.call { callee := Callee.value (Operand.func 160), args := #[Operand.tmp 35, Operand.tmp 39], argTypes := #[3, 3] }, type := 3, pos := "sets.go:93", after := #[{ on := 4, ground := Ground.data }, { on := 8, ground := Ground.data }], guard := none }) rfl (fun K hK => ?_) AllReadyH.nil
    go_simp
    refine (modulo_any _ _ _ (by omega) (by omega)).mono ?_
    rintro e w' ⟨rfl, rfl⟩
    go_wp2_with fail
    refine hK.out _ _ ?_ (fun hHeld9 => ?_)
    · first | exact ⟨x0, x1, x2, x3, y0, y1, y2⟩ | exact hHeld | (simp [go_sem, *]; done) | go_keep
    clear hK K hHeld
    have hHeld := hHeld9
    clear hHeld9
    try simp only [Act.put, List.setIfInBounds_toArray, List.set_cons_zero, List.set_cons_succ]
    refine wpAnyH_take (i := 10) (oi := { dst := some 8, op := Op.assign (Operand.tmp 40), type := 3, pos := "sets.go:93", after := #[{ on := 9, ground := Ground.data }, { on := 9, ground := Ground.chain }, { on := 0, ground := Ground.phase }, { on := 1, ground := Ground.phase }, { on := 2, ground := Ground.phase }, { on := 3, ground := Ground.phase }, { on := 4, ground := Ground.phase }, { on := 5, ground := Ground.phase }, { on := 6, ground := Ground.phase }, { on := 7, ground := Ground.phase }, { on := 8, ground := Ground.phase }, { on := 9, ground := Ground.phase }], guard := none }) (v := ?_) rfl (by kernel_rfl) (by kernel_rfl) (by kernel_rfl) (fun _ _ _ h => h) (Or.inl ⟨by rfl, ?_⟩) (by assumption) ?_
    rotate_left
    · (intro w hSw; (try dsimp only at hSw); go_simp; first | done | with_reducible rfl)
    try simp only [Act.put, List.setIfInBounds_toArray, List.set_cons_zero, List.set_cons_succ]
    refine wpAnyH_done (by kernel_rfl) ?_ _
    clear k1 k2 k3 hHeld
    obtain ⟨t, ht⟩ : ∃ t, k * x % (s2 / d) = t := ⟨_, rfl⟩
    rw [ht] at t1 t2
    have TT := Lib.hid ht
    simp only [ht]
    clear ht
    have ts := prod_small2 t s1 t1 (by omega) (by omega) a6
    obtain ⟨L1, L2, L3, L4, L5⟩ := lcm_facts G.out a5 c5
    have ls := prod_small2 (s1 / d) s2 (by omega) (by omega) (by omega) c6
    have V := Lib.hid (And.intro L2 L3)
    clear L2 L3
    have k4 : IntKind.i64.wrap (s1.tdiv d) = s1 / d := IntWalk.i64_quo _ _ ⟨by omega, by omega, d1⟩
    have k5 : IntKind.i64.wrap (s1 / d * s2) = s1 / d * s2 := IntWalk.i64_in _ (by omega)
    go_wp2_with fail
    refine wp_region_held_drew (S := (fun w' => w'.cell? ⟨w.heap.size, 0, none⟩ = some (.int .i64 l1) ∧ w'.cell? ⟨w.heap.size, 1, none⟩ = some (.int .i64 h1) ∧ w'.cell? ⟨w.heap.size, 2, none⟩ = some (.int .i64 s1) ∧ w'.cell? ⟨w.heap.size, 3, none⟩ = some (.bool dn) ∧ w'.cell? ⟨w.heap.size + 1, 0, none⟩ = some (.int .i64 l2) ∧ w'.cell? ⟨w.heap.size + 1, 1, none⟩ = some (.int .i64 h2) ∧ w'.cell? ⟨w.heap.size + 1, 2, none⟩ = some (.int .i64 s2))) (by kernel_rfl) ?_ (fun hHeld => ?_)
    · first | exact ⟨x0, x1, x2, x3, y0, y1, y2⟩ | exact hHeld | (simp [go_sem, *]; done) | go_keep
    refine wpAnyH_take (i := 0) (oi := { dst := some 48, op := Op.fieldAddr 102 (Operand.tmp 2) 2, type := 0, pos := "sets.go:96", after := #[], guard := none }) (v := ?_) rfl (by kernel_rfl) (by kernel_rfl) (by kernel_rfl) (fun _ _ _ h => h) (Or.inl ⟨by rfl, ?_⟩) (by assumption) ?_
    rotate_left
    · (intro w hSw; (try dsimp only at hSw); go_simp; first | done | with_reducible rfl)
    try simp only [Act.put, List.setIfInBounds_toArray, List.set_cons_zero, List.set_cons_succ]
    refine wpAnyH_take (i := 1) (oi := { dst := some 49, op := Op.load 3 (Operand.tmp 48), type := 3, pos := "sets.go:96", after := #[{ on := 0, ground := Ground.data }], guard := none }) (v := ?_) rfl (by kernel_rfl) (by kernel_rfl) (by kernel_rfl) (fun _ _ _ h => h) (Or.inl ⟨by rfl, ?_⟩) (by assumption) ?_
    rotate_left
    · (intro w hSw; (try dsimp only at hSw); go_simp; first | done | with_reducible rfl)
    try simp only [Act.put, List.setIfInBounds_toArray, List.set_cons_zero, List.set_cons_succ]
    refine wpAnyH_take (i := 2) (oi := { dst := some 50, op := Op.move (Operand.tmp 5), type := 3, pos := "sets.go:96", after := #[], guard := none }) (v := ?_) rfl (by kernel_rfl) (by kernel_rfl) (by kernel_rfl) (fun _ _ _ h => h) (Or.inl ⟨by rfl, ?_⟩) (by assumption) ?_
    rotate_left
    · (intro w hSw; (try dsimp only at hSw); go_simp; first | done | with_reducible rfl)
    try simp only [Act.put, List.setIfInBounds_toArray, List.set_cons_zero, List.set_cons_succ]
    refine wpAnyH_take (i := 3) (oi := { dst := some 51, op := Op.binOp BinOp.quo 3 (Operand.tmp 49) (Operand.tmp 50) 3, type := 3, pos := "sets.go:96", after := #[{ on := 1, ground := Ground.data }, { on := 2, ground := Ground.data }], guard := none }) (v := ?_) rfl (by kernel_rfl) (by kernel_rfl) (by kernel_rfl) (fun _ _ _ h => h) (Or.inl ⟨by rfl, ?_⟩) (by assumption) ?_
    rotate_left
    · (intro w hSw; (try dsimp only at hSw); go_simp; first | done | with_reducible rfl)
    try simp only [Act.put, List.setIfInBounds_toArray, List.set_cons_zero, List.set_cons_succ]
    refine wpAnyH_take (i := 4) (oi := { dst := some 52, op := Op.fieldAddr 102 (Operand.tmp 3) 2, type := 0, pos := "sets.go:96", after := #[], guard := none }) (v := ?_) rfl (by kernel_rfl) (by kernel_rfl) (by kernel_rfl) (fun _ _ _ h => h) (Or.inl ⟨by rfl, ?_⟩) (by assumption) ?_
    rotate_left
    · (intro w hSw; (try dsimp only at hSw); go_simp; first | done | with_reducible rfl)
    try simp only [Act.put, List.setIfInBounds_toArray, List.set_cons_zero, List.set_cons_succ]
    refine wpAnyH_take (i := 5) (oi := { dst := some 53, op := Op.load 3 (Operand.tmp 52), type := 3, pos := "sets.go:96", after := #[{ on := 4, ground := Ground.data }], guard := none }) (v := ?_) rfl (by kernel_rfl) (by kernel_rfl) (by kernel_rfl) (fun _ _ _ h => h) (Or.inl ⟨by rfl, ?_⟩) (by assumption) ?_
    rotate_left
    · (intro w hSw; (try dsimp only at hSw); go_simp; first | done | with_reducible rfl)
    try simp only [Act.put, List.setIfInBounds_toArray, List.set_cons_zero, List.set_cons_succ]
    refine wpAnyH_take (i := 6) (oi := { dst := some 54, op := Op.binOp BinOp.mul 3 (Operand.tmp 51) (Operand.tmp 53) 3, type := 3, pos := "sets.go:96", after := #[{ on := 3, ground := Ground.data }, { on := 5, ground := Ground.data }], guard := none }) (v := ?_) rfl (by kernel_rfl) (by kernel_rfl) (by kernel_rfl) (fun _ _ _ h => h) (Or.inl ⟨by rfl, ?_⟩) (by assumption) ?_
    rotate_left
    · (intro w hSw; (try dsimp only at hSw); go_simp; first | done | with_reducible rfl)
    try simp only [Act.put, List.setIfInBounds_toArray, List.set_cons_zero, List.set_cons_succ]
    refine wpAnyH_take (i := 7) (oi := { dst := some 10, op := Op.assign (Operand.tmp 54), type := 3, pos := "sets.go:96", after := #[{ on := 6, ground := Ground.data }, { on := 0, ground := Ground.phase }, { on := 1, ground := Ground.phase }, { on := 2, ground := Ground.phase }, { on := 3, ground := Ground.phase }, { on := 4, ground := Ground.phase }, { on := 5, ground := Ground.phase }, { on := 6, ground := Ground.phase }], guard := none }) (v := ?_) rfl (by kernel_rfl) (by kernel_rfl) (by kernel_rfl) (fun _ _ _ h => h) (Or.inl ⟨by rfl, ?_⟩) (by assumption) ?_
    rotate_left
    · (intro w hSw; (try dsimp only at hSw); go_simp; first | done | with_reducible rfl)
    try simp only [Act.put, List.setIfInBounds_toArray, List.set_cons_zero, List.set_cons_succ]
    refine wpAnyH_done (by kernel_rfl) ?_ _
    clear k4 k5 hHeld
    obtain ⟨S, hS⟩ : ∃ S, s1 / d * s2 = S := ⟨_, rfl⟩
    obtain ⟨M, hM⟩ : ∃ M, l1 + t * s1 = M := ⟨_, rfl⟩
    obtain ⟨A, hA⟩ : ∃ A, A = max l1 l2 := ⟨_, rfl⟩
    obtain ⟨Z, hZ⟩ : ∃ Z, Z = min h1 h2 := ⟨_, rfl⟩
    have km : (if l1 < l2 then l2 else l1) = A := by rw [hA]; split <;> omega
    have kn : (if h2 < h1 then h2 else h1) = Z := by rw [hZ]; split <;> omega
    have Ab : -1000000 ≤ A ∧ A ≤ 1000000 := by omega
    have Zb : -1000000 ≤ Z ∧ Z ≤ 1000000 := by omega
    have Mb : -1000000 ≤ M ∧ M ≤ 4000001000000 := by omega
    have Sb : 1 ≤ S ∧ S ≤ 4000000000000 := by omega
    simp only [hS, hM]
    have HS := Lib.hid hS
    have HM := Lib.hid hM
    have HA := Lib.hid hA
    have HZ := Lib.hid hZ
    clear hS hM hA hZ ts L1 L4 L5 ls
    go_wp2_with fail
    refine wp_region_held_drew (S := (fun w' => w'.cell? ⟨w.heap.size, 0, none⟩ = some (.int .i64 l1) ∧ w'.cell? ⟨w.heap.size, 1, none⟩ = some (.int .i64 h1) ∧ w'.cell? ⟨w.heap.size, 2, none⟩ = some (.int .i64 s1) ∧ w'.cell? ⟨w.heap.size, 3, none⟩ = some (.bool dn) ∧ w'.cell? ⟨w.heap.size + 1, 0, none⟩ = some (.int .i64 l2) ∧ w'.cell? ⟨w.heap.size + 1, 1, none⟩ = some (.int .i64 h2) ∧ w'.cell? ⟨w.heap.size + 1, 2, none⟩ = some (.int .i64 s2))) (by kernel_rfl) ?_ (fun hHeld => ?_)
    · first | exact ⟨x0, x1, x2, x3, y0, y1, y2⟩ | exact hHeld | (simp [go_sem, *]; done) | go_keep
    refine wpAnyH_take (i := 0) (oi := { dst := some 55, op := Op.fieldAddr 102 (Operand.tmp 2) 0, type := 0, pos := "sets.go:97", after := #[], guard := none }) (v := ?_) rfl (by kernel_rfl) (by kernel_rfl) (by kernel_rfl) (fun _ _ _ h => h) (Or.inl ⟨by rfl, ?_⟩) (by assumption) ?_
    rotate_left
    · (intro w hSw; (try dsimp only at hSw); go_simp; first | done | with_reducible rfl)
    try simp only [Act.put, List.setIfInBounds_toArray, List.set_cons_zero, List.set_cons_succ]
    refine wpAnyH_take (i := 1) (oi := { dst := some 56, op := Op.load 3 (Operand.tmp 55), type := 3, pos := "sets.go:97", after := #[{ on := 0, ground := Ground.data }], guard := none }) (v := ?_) rfl (by kernel_rfl) (by kernel_rfl) (by kernel_rfl) (fun _ _ _ h => h) (Or.inl ⟨by rfl, ?_⟩) (by assumption) ?_
    rotate_left
    · (intro w hSw; (try dsimp only at hSw); go_simp; first | done | with_reducible rfl)
    try simp only [Act.put, List.setIfInBounds_toArray, List.set_cons_zero, List.set_cons_succ]
    refine wpAnyH_take (i := 2) (oi := { dst := some 57, op := Op.fieldAddr 102 (Operand.tmp 3) 0, type := 0, pos := "sets.go:97", after := #[], guard := none }) (v := ?_) rfl (by kernel_rfl) (by kernel_rfl) (by kernel_rfl) (fun _ _ _ h => h) (Or.inl ⟨by rfl, ?_⟩) (by assumption) ?_
    rotate_left
    · (intro w hSw; (try dsimp only at hSw); go_simp; first | done | with_reducible rfl)
    try simp only [Act.put, List.setIfInBounds_toArray, List.set_cons_zero, List.set_cons_succ]
    refine wpAnyH_take (i := 3) (oi := { dst := some 58, op := Op.load 3 (Operand.tmp 57), type := 3, pos := "sets.go:97", after := #[{ on := 2, ground := Ground.data }], guard := none }) (v := ?_) rfl (by kernel_rfl) (by kernel_rfl) (by kernel_rfl) (fun _ _ _ h => h) (Or.inl ⟨by rfl, ?_⟩) (by assumption) ?_
    rotate_left
    · (intro w hSw; (try dsimp only at hSw); go_simp; first | done | with_reducible rfl)
    try simp only [Act.put, List.setIfInBounds_toArray, List.set_cons_zero, List.set_cons_succ]
    refine wpAnyH_take (i := 4) (oi := { dst := some 59, op := Op.call { callee := Callee.builtin Builtin.max, args := #[Operand.tmp 56, Operand.tmp 58], argTypes := #[3, 3] }, type := 3, pos := "sets.go:97", after := #[{ on := 1, ground := Ground.data }, { on := 3, ground := Ground.data }], guard := none }) (v := ?_) rfl (by kernel_rfl) (by kernel_rfl) (by kernel_rfl) (fun _ _ _ h => h) (Or.inl ⟨by rfl, ?_⟩) (by assumption) ?_
    rotate_left
    · (intro w hSw; (try dsimp only at hSw); go_simp; first | done | with_reducible rfl)
    try simp only [Act.put, List.setIfInBounds_toArray, List.set_cons_zero, List.set_cons_succ]
    refine wpAnyH_take (i := 5) (oi := { dst := some 60, op := Op.fieldAddr 102 (Operand.tmp 2) 1, type := 0, pos := "sets.go:97", after := #[], guard := none }) (v := ?_) rfl (by kernel_rfl) (by kernel_rfl) (by kernel_rfl) (fun _ _ _ h => h) (Or.inl ⟨by rfl, ?_⟩) (by assumption) ?_
    rotate_left
    · (intro w hSw; (try dsimp only at hSw); go_simp; first | done | with_reducible rfl)
    try simp only [Act.put, List.setIfInBounds_toArray, List.set_cons_zero, List.set_cons_succ]
    refine wpAnyH_take (i := 6) (oi := { dst := some 61, op := Op.load 3 (Operand.tmp 60), type := 3, pos := "sets.go:97", after := #[{ on := 5, ground := Ground.data }], guard := none }) (v := ?_) rfl (by kernel_rfl) (by kernel_rfl) (by kernel_rfl) (fun _ _ _ h => h) (Or.inl ⟨by rfl, ?_⟩) (by assumption) ?_
    rotate_left
    · (intro w hSw; (try dsimp only at hSw); go_simp; first | done | with_reducible rfl)
    try simp only [Act.put, List.setIfInBounds_toArray, List.set_cons_zero, List.set_cons_succ]
    refine wpAnyH_take (i := 7) (oi := { dst := some 62, op := Op.fieldAddr 102 (Operand.tmp 3) 1, type := 0, pos := "sets.go:97", after := #[], guard := none }) (v := ?_) rfl (by kernel_rfl) (by kernel_rfl) (by kernel_rfl) (fun _ _ _ h => h) (Or.inl ⟨by rfl, ?_⟩) (by assumption) ?_
    rotate_left
    · (intro w hSw; (try dsimp only at hSw); go_simp; first | done | with_reducible rfl)
    try simp only [Act.put, List.setIfInBounds_toArray, List.set_cons_zero, List.set_cons_succ]
    refine wpAnyH_take (i := 8) (oi := { dst := some 63, op := Op.load 3 (Operand.tmp 62), type := 3, pos := "sets.go:97", after := #[{ on := 7, ground := Ground.data }], guard := none }) (v := ?_) rfl (by kernel_rfl) (by kernel_rfl) (by kernel_rfl) (fun _ _ _ h => h) (Or.inl ⟨by rfl, ?_⟩) (by assumption) ?_
    rotate_left
    · (intro w hSw; (try dsimp only at hSw); go_simp; first | done | with_reducible rfl)
    try simp only [Act.put, List.setIfInBounds_toArray, List.set_cons_zero, List.set_cons_succ]
    refine wpAnyH_take (i := 9) (oi := { dst := some 64, op := Op.call { callee := Callee.builtin Builtin.min, args := #[Operand.tmp 61, Operand.tmp 63], argTypes := #[3, 3] }, type := 3, pos := "sets.go:97", after := #[{ on := 6, ground := Ground.data }, { on := 8, ground := Ground.data }], guard := none }) (v := ?_) rfl (by kernel_rfl) (by kernel_rfl) (by kernel_rfl) (fun _ _ _ h => h) (Or.inl ⟨by rfl, ?_⟩) (by assumption) ?_
    rotate_left
    · (intro w hSw; (try dsimp only at hSw); go_simp; first | done | with_reducible rfl)
    try simp only [Act.put, List.setIfInBounds_toArray, List.set_cons_zero, List.set_cons_succ]
    refine wpAnyH_take (i := 10) (oi := { dst := some 11, op := Op.assign (Operand.tmp 59), type := 3, pos := "sets.go:97", after := #[{ on := 4, ground := Ground.data }, { on := 0, ground := Ground.phase }, { on := 1, ground := Ground.phase }, { on := 2, ground := Ground.phase }, { on := 3, ground := Ground.phase }, { on := 4, ground := Ground.phase }, { on := 5, ground := Ground.textOnly Departure.lateStores }, { on := 6, ground := Ground.textOnly Departure.lateStores }, { on := 7, ground := Ground.textOnly Departure.lateStores }, { on := 8, ground := Ground.textOnly Departure.lateStores }, { on := 9, ground := Ground.textOnly Departure.lateStoresUnsure }], guard := none }) (v := ?_) rfl (by kernel_rfl) (by kernel_rfl) (by kernel_rfl) (fun _ _ _ h => h) (Or.inl ⟨by rfl, ?_⟩) (by assumption) ?_
    rotate_left
    · (intro w hSw; (try dsimp only at hSw); go_simp; first | done | with_reducible rfl)
    try simp only [Act.put, List.setIfInBounds_toArray, List.set_cons_zero, List.set_cons_succ]
    refine wpAnyH_take (i := 11) (oi := { dst := some 12, op := Op.assign (Operand.tmp 64), type := 3, pos := "sets.go:97", after := #[{ on := 9, ground := Ground.data }, { on := 10, ground := Ground.chain }, { on := 0, ground := Ground.phase }, { on := 1, ground := Ground.phase }, { on := 2, ground := Ground.phase }, { on := 3, ground := Ground.phase }, { on := 4, ground := Ground.phase }, { on := 5, ground := Ground.phase }, { on := 6, ground := Ground.phase }, { on := 7, ground := Ground.phase }, { on := 8, ground := Ground.phase }, { on := 9, ground := Ground.phase }, { on := 10, ground := Ground.phase }], guard := none }) (v := ?_) rfl (by kernel_rfl) (by kernel_rfl) (by kernel_rfl) (fun _ _ _ h => h) (Or.inl ⟨by rfl, ?_⟩) (by assumption) ?_
    rotate_left
    · (intro w hSw; (try dsimp only at hSw); go_simp; first | done | with_reducible rfl)
    try simp only [Act.put, List.setIfInBounds_toArray, List.set_cons_zero, List.set_cons_succ]
    refine wpAnyH_done (by kernel_rfl) ?_ _
    clear km kn hHeld
    have u1 := Int.emod_nonneg (M - A) (show S ≠ 0 by omega)
    have u2 := Int.emod_lt_of_pos (M - A) (show 0 < S by omega)
    have v1 := Int.emod_nonneg (Z - M) (show S ≠ 0 by omega)
    have v2 := Int.emod_lt_of_pos (Z - M) (show 0 < S by omega)
    have k6 : IntKind.i64.wrap (M - A) = M - A := IntWalk.i64_in _ (by omega)
    have k7 : IntKind.i64.wrap (Z - M) = Z - M := IntWalk.i64_in _ (by omega)
    have k8 : IntKind.i64.wrap (A + (M - A) % S) = A + (M - A) % S := IntWalk.i64_in _ (by omega)
    have hne : ¬ w.heap.size = w.heap.size + 1 + 1 := by omega
    have hne' : ¬ w.heap.size + 1 + 1 = w.heap.size := by omega
    have k9 : IntKind.i64.wrap (Z - (Z - M) % S) = Z - (Z - M) % S := IntWalk.i64_in _ (by omega)
    go_wp2_with fail
    refine wp_region_held_drew (S := (fun w' => w'.cell? ⟨w.heap.size, 0, none⟩ = some (.int .i64 l1) ∧ w'.cell? ⟨w.heap.size, 1, none⟩ = some (.int .i64 h1) ∧ w'.cell? ⟨w.heap.size, 2, none⟩ = some (.int .i64 s1) ∧ w'.cell? ⟨w.heap.size, 3, none⟩ = some (.bool dn) ∧ w'.cell? ⟨w.heap.size + 1, 0, none⟩ = some (.int .i64 l2) ∧ w'.cell? ⟨w.heap.size + 1, 1, none⟩ = some (.int .i64 h2) ∧ w'.cell? ⟨w.heap.size + 1, 2, none⟩ = some (.int .i64 s2))) (by kernel_rfl) ?_ (fun hHeld => ?_)
    · first | exact ⟨x0, x1, x2, x3, y0, y1, y2⟩ | exact hHeld | (simp [go_sem, *]; done) | go_keep
    refine wpAnyH_take (i := 0) (oi := { dst := some 65, op := Op.move (Operand.tmp 11), type := 3, pos := "sets.go:98", after := #[], guard := none }) (v := ?_) rfl (by kernel_rfl) (by kernel_rfl) (by kernel_rfl) (fun _ _ _ h => h) (Or.inl ⟨by rfl, ?_⟩) (by assumption) ?_
    rotate_left
    · (intro w hSw; (try dsimp only at hSw); go_simp; first | done | with_reducible rfl)
    try simp only [Act.put, List.setIfInBounds_toArray, List.set_cons_zero, List.set_cons_succ]
    refine wpAnyH_take (i := 1) (oi := { dst := some 66, op := Op.move (Operand.tmp 9), type := 3, pos := "sets.go:98", after := #[], guard := none }) (v := ?_) rfl (by kernel_rfl) (by kernel_rfl) (by kernel_rfl) (fun _ _ _ h => h) (Or.inl ⟨by rfl, ?_⟩) (by assumption) ?_
    rotate_left
    · (intro w hSw; (try dsimp only at hSw); go_simp; first | done | with_reducible rfl)
    try simp only [Act.put, List.setIfInBounds_toArray, List.set_cons_zero, List.set_cons_succ]
    refine wpAnyH_take (i := 2) (oi := { dst := some 67, op := Op.move (Operand.tmp 11), type := 3, pos := "sets.go:98", after := #[], guard := none }) (v := ?_) rfl (by kernel_rfl) (by kernel_rfl) (by kernel_rfl) (fun _ _ _ h => h) (Or.inl ⟨by rfl, ?_⟩) (by assumption) ?_
    rotate_left
    · (intro w hSw; (try dsimp only at hSw); go_simp; first | done | with_reducible rfl)
    try simp only [Act.put, List.setIfInBounds_toArray, List.set_cons_zero, List.set_cons_succ]
    refine wpAnyH_take (i := 3) (oi := { dst := some 68, op := Op.binOp BinOp.sub 3 (Operand.tmp 66) (Operand.tmp 67) 3, type := 3, pos := "sets.go:98", after := #[{ on := 1, ground := Ground.data }, { on := 2, ground := Ground.data }], guard := none }) (v := ?_) rfl (by kernel_rfl) (by kernel_rfl) (by kernel_rfl) (fun _ _ _ h => h) (Or.inl ⟨by rfl, ?_⟩) (by assumption) ?_
    rotate_left
    · (intro w hSw; (try dsimp only at hSw); go_simp; first | done | with_reducible rfl)
    try simp only [Act.put, List.setIfInBounds_toArray, List.set_cons_zero, List.set_cons_succ]
    refine wpAnyH_take (i := 4) (oi := { dst := some 69, op := Op.move (Operand.tmp 10), type := 3, pos := "sets.go:98", after := #[], guard := none }) (v := ?_) rfl (by kernel_rfl) (by kernel_rfl) (by kernel_rfl) (fun _ _ _ h => h) (Or.inl ⟨by rfl, ?_⟩) (by assumption) ?_
    rotate_left
    · (intro w hSw; (try dsimp only at hSw); go_simp; first | done | with_reducible rfl)
    try simp only [Act.put, List.setIfInBounds_toArray, List.set_cons_zero, List.set_cons_succ]
    refine wpAnyH_take (i := 7) (oi := { dst := some 72, op := Op.move (Operand.tmp 12), type := 3, pos := "sets.go:98", after := #[], guard := none }) (v := ?_) rfl (by kernel_rfl) (by kernel_rfl) (by kernel_rfl) (fun _ _ _ h => h) (Or.inl ⟨by rfl, ?_⟩) (by assumption) ?_
    rotate_left
    · (intro w hSw; (try dsimp only at hSw); go_simp; first | done | with_reducible rfl)
    try simp only [Act.put, List.setIfInBounds_toArray, List.set_cons_zero, List.set_cons_succ]
    refine wpAnyH_take (i := 8) (oi := { dst := some 73, op := Op.move (Operand.tmp 12), type := 3, pos := "sets.go:98", after := #[], guard := none }) (v := ?_) rfl (by kernel_rfl) (by kernel_rfl) (by kernel_rfl) (fun _ _ _ h => h) (Or.inl ⟨by rfl, ?_⟩) (by assumption) ?_
    rotate_left
    · (intro w hSw; (try dsimp only at hSw); go_simp; first | done | with_reducible rfl)
    try simp only [Act.put, List.setIfInBounds_toArray, List.set_cons_zero, List.set_cons_succ]
    refine wpAnyH_take (i := 9) (oi := { dst := some 74, op := Op.move (Operand.tmp 9), type := 3, pos := "sets.go:98", after := #[], guard := none }) (v := ?_) rfl (by kernel_rfl) (by kernel_rfl) (by kernel_rfl) (fun _ _ _ h => h) (Or.inl ⟨by rfl, ?_⟩) (by assumption) ?_
    rotate_left
    · (intro w hSw; (try dsimp only at hSw); go_simp; first | done | with_reducible rfl)
    try simp only [Act.put, List.setIfInBounds_toArray, List.set_cons_zero, List.set_cons_succ]
    refine wpAnyH_take (i := 10) (oi := { dst := some 75, op := Op.binOp BinOp.sub 3 (Operand.tmp 73) (Operand.tmp 74) 3, type := 3, pos := "sets.go:98", after := #[{ on := 8, ground := Ground.data }, { on := 9, ground := Ground.data }], guard := none }) (v := ?_) rfl (by kernel_rfl) (by kernel_rfl) (by kernel_rfl) (fun _ _ _ h => h) (Or.inl ⟨by rfl, ?_⟩) (by assumption) ?_
    rotate_left
    · (intro w hSw; (try dsimp only at hSw); go_simp; first | done | with_reducible rfl)
    try simp only [Act.put, List.setIfInBounds_toArray, List.set_cons_zero, List.set_cons_succ]
    refine wpAnyH_take (i := 11) (oi := { dst := some 76, op := Op.move (Operand.tmp 10), type := 3, pos := "sets.go:98", after := #[], guard := none }) (v := ?_) rfl (by kernel_rfl) (by kernel_rfl) (by kernel_rfl) (fun _ _ _ h => h) (Or.inl ⟨by rfl, ?_⟩) (by assumption) ?_
    rotate_left
    · (intro w hSw; (try dsimp only at hSw); go_simp; first | done | with_reducible rfl)
    try simp only [Act.put, List.setIfInBounds_toArray, List.set_cons_zero, List.set_cons_succ]
    refine wpAnyH_take (i := 14) (oi := { dst := some 79, op := Op.move (Operand.tmp 10), type := 3, pos := "sets.go:98", after := #[], guard := none }) (v := ?_) rfl (by kernel_rfl) (by kernel_rfl) (by kernel_rfl) (fun _ _ _ h => h) (Or.inl ⟨by rfl, ?_⟩) (by assumption) ?_
    rotate_left
    · (intro w hSw; (try dsimp only at hSw); go_simp; first | done | with_reducible rfl)
    try simp only [Act.put, List.setIfInBounds_toArray, List.set_cons_zero, List.set_cons_succ]
    refine wpAnyH_take (i := 15) (oi := { dst := some 80, op := Op.fieldAddr 102 (Operand.tmp 2) 3, type := 0, pos := "sets.go:98", after := #[], guard := none }) (v := ?_) rfl (by kernel_rfl) (by kernel_rfl) (by kernel_rfl) (fun _ _ _ h => h) (Or.inl ⟨by rfl, ?_⟩) (by assumption) ?_
    rotate_left
    · (intro w hSw; (try dsimp only at hSw); go_simp; first | done | with_reducible rfl)
    try simp only [Act.put, List.setIfInBounds_toArray, List.set_cons_zero, List.set_cons_succ]
    refine wpAnyH_take (i := 16) (oi := { dst := some 81, op := Op.load 4 (Operand.tmp 80), type := 4, pos := "sets.go:98", after := #[{ on := 15, ground := Ground.data }], guard := none }) (v := ?_) rfl (by kernel_rfl) (by kernel_rfl) (by kernel_rfl) (fun _ _ _ h => h) (Or.inl ⟨by rfl, ?_⟩) (by assumption) ?_
    rotate_left
    · (intro w hSw; (try dsimp only at hSw); go_simp; first | done | with_reducible rfl)
    try simp only [Act.put, List.setIfInBounds_toArray, List.set_cons_zero, List.set_cons_succ]
    refine wpAnyH_ready (rs := [5]) (by kernel_rfl) (by simp) ?_
    refine AllReadyH.cons (o := { dst := some 70, op := Op.call { callee := Callee.value (Operand.func 160), args := #[Operand.tmp 68, Operand.tmp 69], argTypes := #[3, 3] }, type := 3, pos := "sets.go:99", after := #[{ on := 3, ground := Ground.data }, { on := 4, ground := Ground.data }], guard := none }) rfl (fun K hK => ?_) AllReadyH.nil
    go_simp
    refine (modulo_any _ _ _ (by omega) (by omega)).mono ?_
    rintro e w' ⟨rfl, rfl⟩
    go_wp2_with fail
    refine hK.out _ _ ?_ (fun hHeld5 => ?_)
    · first | exact ⟨x0, x1, x2, x3, y0, y1, y2⟩ | exact hHeld | (simp [go_sem, *]; done) | go_keep
    clear hK K hHeld
    have hHeld := hHeld5
    clear hHeld5
    try simp only [Act.put, List.setIfInBounds_toArray, List.set_cons_zero, List.set_cons_succ]
    refine wpAnyH_take (i := 6) (oi := { dst := some 71, op := Op.binOp BinOp.add 3 (Operand.tmp 65) (Operand.tmp 70) 3, type := 3, pos := "sets.go:98", after := #[{ on := 0, ground := Ground.data }, { on := 5, ground := Ground.data }], guard := none }) (v := ?_) rfl (by kernel_rfl) (by kernel_rfl) (by kernel_rfl) (fun _ _ _ h => h) (Or.inl ⟨by rfl, ?_⟩) (by assumption) ?_
    rotate_left
    · (intro w hSw; (try dsimp only at hSw); go_simp; first | done | with_reducible rfl)
    try simp only [Act.put, List.setIfInBounds_toArray, List.set_cons_zero, List.set_cons_succ]
    refine wpAnyH_ready (rs := [12]) (by kernel_rfl) (by simp) ?_
    refine AllReadyH.cons (o := { dst := some 77, op := Op.call { callee := Callee.value (Operand.func 160), args := #[Operand.tmp 75, Operand.tmp 76], argTypes := #[3, 3] }, type := 3, pos := "sets.go:100", after := #[{ on := 10, ground := Ground.data }, { on := 11, ground := Ground.data }, { on := 5, ground := Ground.chain }], guard := none }) rfl (fun K hK => ?_) AllReadyH.nil
    go_simp
    refine (modulo_any _ _ _ (by omega) (by omega)).mono ?_
    rintro e w' ⟨rfl, rfl⟩
    go_wp2_with fail
    refine hK.out _ _ ?_ (fun hHeld12 => ?_)
    · first | exact ⟨x0, x1, x2, x3, y0, y1, y2⟩ | exact hHeld | (simp [go_sem, *]; done) | go_keep
    clear hK K hHeld
    have hHeld := hHeld12
    clear hHeld12
    try simp only [Act.put, List.setIfInBounds_toArray, List.set_cons_zero, List.set_cons_succ]
    refine wpAnyH_take (i := 13) (oi := { dst := some 78, op := Op.binOp BinOp.sub 3 (Operand.tmp 72) (Operand.tmp 77) 3, type := 3, pos := "sets.go:98", after := #[{ on := 7, ground := Ground.data }, { on := 12, ground := Ground.data }], guard := none }) (v := ?_) rfl (by kernel_rfl) (by kernel_rfl) (by kernel_rfl) (fun _ _ _ h => h) (Or.inl ⟨by rfl, ?_⟩) (by assumption) ?_
    rotate_left
    · (intro w hSw; (try dsimp only at hSw); go_simp; first | done | with_reducible rfl)
    try simp only [Act.put, List.setIfInBounds_toArray, List.set_cons_zero, List.set_cons_succ]
    refine wpAnyH_take (i := 17) (oi := { dst := some 82, op := Op.build 102 #[(0, Operand.tmp 71), (1, Operand.tmp 78), (2, Operand.tmp 79), (3, Operand.tmp 81)], type := 102, pos := "sets.go:98", after := #[{ on := 6, ground := Ground.data }, { on := 13, ground := Ground.data }, { on := 14, ground := Ground.data }, { on := 16, ground := Ground.data }], guard := none }) (v := ?_) rfl (by kernel_rfl) (by kernel_rfl) (by kernel_rfl) (fun _ _ _ h => h) (Or.inl ⟨by rfl, ?_⟩) (by assumption) ?_
    rotate_left
    · (intro w hSw; (try dsimp only at hSw); go_simp; first | done | with_reducible rfl)
    try simp only [Act.put, List.setIfInBounds_toArray, List.set_cons_zero, List.set_cons_succ]
    refine wpAnyH_ready (rs := [18]) (by kernel_rfl) (by simp) ?_
    refine AllReadyH.cons (o := { dst := none, op := Op.store 102 (Operand.tmp 4) (Operand.tmp 82), type := 0, pos := "sets.go:98", after := #[{ on := 17, ground := Ground.data }, { on := 12, ground := Ground.chain }, { on := 0, ground := Ground.phase }, { on := 1, ground := Ground.phase }, { on := 2, ground := Ground.phase }, { on := 3, ground := Ground.phase }, { on := 4, ground := Ground.phase }, { on := 5, ground := Ground.phase }, { on := 6, ground := Ground.phase }, { on := 7, ground := Ground.phase }, { on := 8, ground := Ground.phase }, { on := 9, ground := Ground.phase }, { on := 10, ground := Ground.phase }, { on := 11, ground := Ground.phase }, { on := 12, ground := Ground.phase }, { on := 13, ground := Ground.phase }, { on := 14, ground := Ground.phase }, { on := 15, ground := Ground.phase }, { on := 16, ground := Ground.phase }, { on := 17, ground := Ground.phase }], guard := none }) rfl (fun K hK => ?_) AllReadyH.nil
    go_simp
    refine hK.out _ _ ?_ (fun hHeld18 => ?_)
    · first | exact ⟨x0, x1, x2, x3, y0, y1, y2⟩ | exact hHeld | (simp [go_sem, *]; done) | go_keep
    clear hK K hHeld
    have hHeld := hHeld18
    clear hHeld18
    try simp only [Act.put, List.setIfInBounds_toArray, List.set_cons_zero, List.set_cons_succ]
    refine wpAnyH_done (by kernel_rfl) ?_ _
    clear k6 k7 k8 k9 hHeld
    go_wp2
    have TD : (s2 / d) ∣ (t - (l2 - l1) / d * x) := by
      have e : (l2 - l1) / d = k := Int.ediv_eq_of_eq_mul_right (by omega) HK.out
      rw [e, ← TT.out]
      exact ⟨-(k * x / (s2 / d)), by have := Int.mul_ediv_add_emod (k * x) (s2 / d); rw [Int.mul_neg]; omega⟩
    have CM : ∀ n, Mem (A + (M - A) % S) (Z - (Z - M) % S) S n ↔ Mem l1 h1 s1 n ∧ Mem l2 h2 s2 n := by
      intro n
      have c := common_mem (l1 := l1) (h1 := h1) (l2 := l2) (h2 := h2) (t := t) (L := A + (M - A) % S) (H := Z - (Z - M) % S) (n := n) G.out a5 c5 ⟨k, HK.out⟩ TD (by rw [HM.out, HS.out, HA.out]) (by rw [HM.out, HS.out, HZ.out])
      rwa [HS.out] at c
    refine bodyPost_ret (v := .agg #[.int .i64 (A + (M - A) % S), .int .i64 (Z - (Z - M) % S), .int .i64 S, .bool dn]) (by simp [results, Try.results127, go_sem, *]) rfl ⟨_, _, S, dn, ⟨⟨Sb.1, Sb.2, by omega, by omega, by omega, by omega, fun _ => ends_dvd rfl rfl, CM⟩, fun _ => rfl⟩, rfl, ?_⟩
    repeat (first | exact W1.out | refine Below.alloc ?_ (by omega) _ | refine Below.setCell ?_ (by simp; try omega) _ | refine Below.drew ?_ | refine below_drewN ?_ _)
  · have hz : ((l2 - l1).tmod d != 0) = true := by
      simp only [bne_iff_ne, ne_eq]
      exact fun c => hd (Int.dvd_of_tmod_eq_zero c)
    have dz : ¬ d = 0 := by omega
    have HD := Lib.hid hd
    have R := Lib.hid (show (∀ o, (w1.alloc o).cell? ⟨w.heap.size + 1 + 1, 0, none⟩ = some (.int .i64 0)) ∧ (∀ o, (w1.alloc o).cell? ⟨w.heap.size + 1 + 1, 1, none⟩ = some (.int .i64 0)) ∧ (∀ o, (w1.alloc o).cell? ⟨w.heap.size + 1 + 1, 2, none⟩ = some (.int .i64 0)) ∧ (∀ o, (w1.alloc o).cell? ⟨w.heap.size + 1 + 1, 3, none⟩ = some (.bool false)) ∧
      (∀ o, (w1.alloc o).frozen? ⟨w.heap.size + 1 + 1, 0, none⟩ = false) ∧ (∀ o, (w1.alloc o).frozen? ⟨w.heap.size + 1 + 1, 1, none⟩ = false) ∧ (∀ o, (w1.alloc o).frozen? ⟨w.heap.size + 1 + 1, 2, none⟩ = false) ∧ (∀ o, (w1.alloc o).frozen? ⟨w.heap.size + 1 + 1, 3, none⟩ = false) from
      ⟨fun o => (alloc_cell w1 o (by simp; omega)).trans r0, fun o => (alloc_cell w1 o (by simp; omega)).trans r1, fun o => (alloc_cell w1 o (by simp; omega)).trans r2, fun o => (alloc_cell w1 o (by simp; omega)).trans r3,
       fun o => (alloc_frozen w1 o (by simp; omega)).trans f0, fun o => (alloc_frozen w1 o (by simp; omega)).trans f1, fun o => (alloc_frozen w1 o (by simp; omega)).trans f2, fun o => (alloc_frozen w1 o (by simp; omega)).trans f3⟩)
    clear hd
    go_wp2_with fail
    refine (nothing_any _).mono ?_
    rintro e w' ⟨rfl, rfl⟩
    obtain ⟨r0, r1, r2, r3, f0, f1, f2, f3⟩ := R.out
    go_wp2
    refine bodyPost_ret (v := .agg #[.int .i64 1, .int .i64 0, .int .i64 1, .bool false]) (by simp [results, Try.results127, go_sem, *]) rfl ⟨1, 0, 1, false, ⟨⟨by omega, by omega, by omega, by omega, by omega, by omega, by omega, fun n => ⟨fun hm => ?_, fun hm => ?_⟩⟩, fun c => by omega⟩, rfl, ?_⟩
    · have := hm.1; have := hm.2.1; omega
    · exact absurd (no_meet G.out HD.out hm.1 hm.2) id
    · repeat (first | exact W1.out | refine Below.alloc ?_ (by simp [World.setCell]; omega) _ | refine Below.setCell ?_ (by simp; try omega) _)
end Go.Proofs.Ytmelknodmbdhpaa
namespace Go.Proofs.Ytmelknodmbdhpaa
/-- a right range that is not empty, as steps -/
theorem steps_a {l h s : Int} (hk : chk l h s = 0) (hle : l ≤ h) : h - l = (siz l h s - 1) * magA s ∧ 1 ≤ siz l h s ∧ 1 ≤ magA s ∧ s ≠ 0 := by
  have e := siz_ok hk hle
  rcases chk_zero hk with ⟨rfl, rfl, rfl⟩ | ⟨a1, a2, a3, a4, a5, a6, a7, a8, a9, _⟩
  · omega
  · have q := quo_bd (h - l) (magA s) (by omega) a7
    refine ⟨?_, by omega, a7, a4⟩
    have := ediv_mul (h - l) (magA s)
    rw [e, show (h - l) / magA s + 1 - 1 = (h - l) / magA s by omega, this]; omega
theorem mulr_a (a b m : Int) (h : a ≤ b) (hm : 0 ≤ m) : a * m ≤ b * m := Int.mul_le_mul_of_nonneg_right h hm
theorem empty_a {l h s : Int} (_hk : chk l h s = 0) (hle : ¬ l ≤ h) : siz l h s = 0 := if_neg (fun c => hle c.2)
/-- the numbers of a range -/
def RMem (l h s n : Int) : Prop := Mem l h (magA s) n
theorem rmem_lo {l h s : Int} (hle : l ≤ h) : RMem l h s l := ⟨by omega, hle, by rw [Int.sub_self]; exact Int.dvd_zero _⟩
theorem rmem_hi {l h s : Int} (hk : chk l h s = 0) (hle : l ≤ h) : RMem l h s h := by
  obtain ⟨st, _, _, _⟩ := steps_a hk hle
  exact ⟨hle, by omega, ⟨siz l h s - 1, by rw [st, Int.mul_comm]⟩⟩
theorem rmem_next {l h s : Int} (hk : chk l h s = 0) (hlt : l < h) : RMem l h s (l + magA s) := by
  obtain ⟨st, z, m, _⟩ := steps_a hk (by omega)
  have : 1 ≤ siz l h s - 1 := by
    by_cases c : siz l h s - 1 = 0
    · rw [c, Int.zero_mul] at st; omega
    · omega
  have : 1 * magA s ≤ (siz l h s - 1) * magA s := mulr_a _ _ _ this (by omega)
  exact ⟨by omega, by omega, ⟨1, by omega⟩⟩
theorem rmem_none {l h s n : Int} (hle : ¬ l ≤ h) : ¬ RMem l h s n := fun hm => hle (by have := hm.1; have := hm.2.1; omega)
theorem canon {l h s l' h' s' : Int} (hk : chk l h s = 0) (hk' : chk l' h' s' = 0) (hm : ∀ n, RMem l h s n ↔ RMem l' h' s' n) : l = l' ∧ h = h' ∧ siz l h s = siz l' h' s' := by
  by_cases hle : l ≤ h
  · have a1 := (hm l).1 (rmem_lo hle)
    have a2 := (hm h).1 (rmem_hi hk hle)
    have hle' : l' ≤ h' := by have := a1.1; have := a1.2.1; omega
    have b1 := (hm l').2 (rmem_lo hle')
    have b2 := (hm h').2 (rmem_hi hk' hle')
    have e1 : l = l' := by have := a1.1; have := b1.1; omega
    have e2 : h = h' := by have := a2.2.1; have := b2.2.1; omega
    subst e1 e2
    refine ⟨rfl, rfl, ?_⟩
    rw [siz_ok hk hle, siz_ok hk' hle']
    by_cases c : l = h
    · subst c; simp
    · have c1 := (hm _).1 (rmem_next hk (by omega))
      have c2 := (hm _).2 (rmem_next hk' (by omega))
      obtain ⟨_, _, m, _⟩ := steps_a hk hle
      obtain ⟨_, _, m', _⟩ := steps_a hk' hle'
      have d1 : magA s' ∣ magA s := by have := c1.2.2; rwa [show l + magA s - l = magA s by omega] at this
      have d2 : magA s ∣ magA s' := by have := c2.2.2; rwa [show l + magA s' - l = magA s' by omega] at this
      have : magA s = magA s' := Int.le_antisymm (Int.le_of_dvd (by omega) d2) (Int.le_of_dvd (by omega) d1)
      rw [this]
  · have hle' : ¬ l' ≤ h' := fun c => hle (by have := (hm l').2 (rmem_lo c); have := this.1; have := (hm l').2 (rmem_lo c) |>.2.1; omega)
    obtain ⟨rfl, rfl, rfl⟩ := le_of_chk hk hle
    obtain ⟨rfl, rfl, rfl⟩ := le_of_chk hk' hle'
    exact ⟨rfl, rfl, rfl⟩
end Go.Proofs.Ytmelknodmbdhpaa
namespace Go.Proofs.Ytmelknodmbdhpaa
open Go.RowKit
/-- two right ranges with the same numbers and the same direction -/
theorem canonS {l h s l' h' s' : Int} (hk : chk l h s = 0) (hk' : chk l' h' s' = 0) (hm : ∀ n, RMem l h s n ↔ RMem l' h' s' n) (hd : l < h → (s < 0 ↔ s' < 0)) : l = l' ∧ h = h' ∧ s = s' := by
  obtain ⟨e1, e2, _⟩ := canon hk hk' hm
  refine ⟨e1, e2, ?_⟩
  subst e1 e2
  rcases chk_zero hk with ⟨_, _, c⟩ | ⟨a1, a2, a3, a4, a5, a6, a7, a8, a9, a10⟩
  · rcases chk_zero hk' with ⟨_, _, c'⟩ | ⟨b1, b2, _⟩
    · rw [c, c']
    · omega
  · rcases chk_zero hk' with ⟨_, _, c'⟩ | ⟨b1, b2, b3, b4, b5, b6, b7, b8, b9, b10⟩
    · omega
    by_cases c : l = h
    · rw [a10 c, b10 c]
    · have c1 := (hm _).1 (rmem_next hk (by omega))
      have c2 := (hm _).2 (rmem_next hk' (by omega))
      obtain ⟨_, _, m, _⟩ := steps_a hk (show l ≤ h by omega)
      obtain ⟨_, _, m', _⟩ := steps_a hk' (show l ≤ h by omega)
      have d1 : magA s' ∣ magA s := by have := c1.2.2; rwa [show l + magA s - l = magA s by omega] at this
      have d2 : magA s ∣ magA s' := by have := c2.2.2; rwa [show l + magA s' - l = magA s' by omega] at this
      have q : magA s = magA s' := Int.le_antisymm (Int.le_of_dvd (by omega) d2) (Int.le_of_dvd (by omega) d1)
      have := hd (by omega)
      unfold magA at q
      split at q <;> split at q <;> omega
theorem EInv.ends {a b : Int} (hb2 : b ≤ 4000000) : ∀ (n : Nat) (r0 x0 r1 x1 : Int), EInv a b r0 x0 r1 x1 → r1.toNat ≤ n → ∃ d x, Gcd a b d x
  | n, r0, x0, r1, x1, hi, hn => by
    by_cases hz : r1 = 0
    · subst hz; exact ⟨_, _, hi.done⟩
    · obtain ⟨s1, s2⟩ := hi.step hb2 hz
      have n1 := hi.n1
      match n, hn with
      | 0, hn => omega
      | n + 1, hn => exact EInv.ends hb2 n _ _ _ _ s1 (by have := s1.n1; omega)
end Go.Proofs.Ytmelknodmbdhpaa
