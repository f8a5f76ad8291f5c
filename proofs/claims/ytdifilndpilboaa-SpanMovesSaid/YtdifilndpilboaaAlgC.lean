/-
  The contracts of span.gap and span.common.
-/
import Derived.Test.YtdifilndpilboaaAlgE
import Derived.WalkKit
import Derived.WalkSpells
import Derived.WalkLawsBesides
import Derived.BigQuiet
import Derived.BigRegion
import Derived.Deep.QuietTactic
import Derived.Deep.RegionHeld3
import Derived.Deep.DrawnRows
import Derived.Lib.Hide
namespace Go.Proofs.Ytdifilndpilboaa
open Go.RowKit

theorem alloc_cell (w : World) (o : Obj) {a : Addr} (h : a.block < w.heap.size) : (w.alloc o).cell? a = w.cell? a := ((Below.refl w.heap.size w).alloc (Nat.le_refl _) o).cell h
theorem alloc_frozen (w : World) (o : Obj) {a : Addr} (h : a.block < w.heap.size) : (w.alloc o).frozen? a = w.frozen? a := ((Below.refl w.heap.size w).alloc (Nat.le_refl _) o).frozen h
theorem prod_small (k x : Int) (h1 : -2000000 ≤ k) (h2 : k ≤ 2000000) (h3 : -4000001 ≤ x) (h4 : x ≤ 4000001) : -9000000000000 ≤ k * x ∧ k * x ≤ 9000000000000 := by
  by_cases x0 : 0 ≤ x
  · have e1 : k * x ≤ 2000000 * x := Int.mul_le_mul_of_nonneg_right h2 x0
    have e2 : -2000000 * x ≤ k * x := Int.mul_le_mul_of_nonneg_right h1 x0
    omega
  · have e1 : 2000000 * x ≤ k * x := Int.mul_le_mul_of_nonpos_right h2 (by omega)
    have e2 : k * x ≤ -2000000 * x := Int.mul_le_mul_of_nonpos_right h1 (by omega)
    omega
theorem prod_small2 (t s : Int) (h1 : 0 ≤ t) (h2 : t ≤ 2000000) (h3 : 0 ≤ s) (h4 : s ≤ 2000000) : 0 ≤ t * s ∧ t * s ≤ 4000000000000 := by
  have e1 : 0 ≤ t * s := Int.mul_nonneg h1 h3
  have e2 : t * s ≤ 2000000 * s := Int.mul_le_mul_of_nonneg_right h2 h3
  omega

def gapI (l h st : Int) : Int := if l < h then st else 0
set_option maxHeartbeats 400000 in
theorem gap_any (l h st : Int) (dn : Bool) (w : World) :
    Calls Try.prog 124 #[.agg #[.int .i64 l, .int .i64 h, .int .i64 st, .bool dn]] w fun e w' => e = .returned (.int .i64 (gapI l h st)) ∧ Below w.heap.size w w' := by
  by_cases c : l < h
  · have E := Lib.hid (show gapI l h st = st from if_pos c)
    have c2 : ¬ h ≤ l := by omega
    go_enter Try.func124, Try.ntmps124
    go_wp2
    go_ret
    exact ⟨by rw [E.out]; rfl, (Below.refl _ _).alloc (Nat.le_refl _) _⟩
  · have E := Lib.hid (show gapI l h st = 0 from if_neg c)
    have c2 : h ≤ l := by omega
    clear c
    go_enter Try.func124, Try.ntmps124
    go_wp2
    go_ret
    exact ⟨by rw [E.out]; rfl, (Below.refl _ _).alloc (Nat.le_refl _) _⟩

/-- a progression with the common numbers of two -/
def Common (l1 h1 s1 l2 h2 s2 L H S : Int) : Prop :=
  1 ≤ S ∧ S ≤ 4000000000000 ∧ -5000000000000 ≤ L ∧ L ≤ 5000000000000 ∧ -5000000000000 ≤ H ∧ H ≤ 5000000000000 ∧ (L ≤ H → S ∣ H - L) ∧ ∀ n, Mem L H S n ↔ Mem l1 h1 s1 n ∧ Mem l2 h2 s2 n
def CommonRet (l1 h1 s1 l2 h2 s2 : Int) (w : World) : Ending → World → Prop := fun e w' => ∃ (L H S : Int) (dn : Bool), Common l1 h1 s1 l2 h2 s2 L H S ∧ e = .returned (.agg #[.int .i64 L, .int .i64 H, .int .i64 S, .bool dn]) ∧ Below w.heap.size w w'

/-- what common returns, with the direction -/
def CommonDir (l1 h1 s1 l2 h2 s2 : Int) (dn1 : Bool) (w : World) : Ending → World → Prop := fun e w' => ∃ (L H S : Int) (dn : Bool), (Common l1 h1 s1 l2 h2 s2 L H S ∧ (L ≤ H → dn = dn1)) ∧ e = .returned (.agg #[.int .i64 L, .int .i64 H, .int .i64 S, .bool dn]) ∧ Below w.heap.size w w'

theorem res4 {w w1 : World} {t : TypeId} {a b c d a' b' c' d' p q r s : Value} (hb : Below (((w.alloc (.cells #[a, b, c, d] t)).alloc (.cells #[a', b', c', d'] t)).alloc (.cells #[p, q, r, s] t)).heap.size (((w.alloc (.cells #[a, b, c, d] t)).alloc (.cells #[a', b', c', d'] t)).alloc (.cells #[p, q, r, s] t)) w1) :
    Hid (Below w.heap.size w w1) ∧ w.heap.size + 2 < w1.heap.size ∧
      (w1.cell? ⟨w.heap.size, 0, none⟩ = some a ∧ w1.cell? ⟨w.heap.size, 1, none⟩ = some b ∧ w1.cell? ⟨w.heap.size, 2, none⟩ = some c ∧ w1.cell? ⟨w.heap.size, 3, none⟩ = some d) ∧
      (w1.cell? ⟨w.heap.size + 1, 0, none⟩ = some a' ∧ w1.cell? ⟨w.heap.size + 1, 1, none⟩ = some b' ∧ w1.cell? ⟨w.heap.size + 1, 2, none⟩ = some c') ∧
      (w1.cell? ⟨w.heap.size + 1 + 1, 0, none⟩ = some p ∧ w1.cell? ⟨w.heap.size + 1 + 1, 1, none⟩ = some q ∧ w1.cell? ⟨w.heap.size + 1 + 1, 2, none⟩ = some r ∧ w1.cell? ⟨w.heap.size + 1 + 1, 3, none⟩ = some s) ∧
      (w1.frozen? ⟨w.heap.size + 1 + 1, 0, none⟩ = false ∧ w1.frozen? ⟨w.heap.size + 1 + 1, 1, none⟩ = false ∧ w1.frozen? ⟨w.heap.size + 1 + 1, 2, none⟩ = false ∧ w1.frozen? ⟨w.heap.size + 1 + 1, 3, none⟩ = false) := by
  have hs : w.heap.size + 1 + 1 < (((w.alloc (.cells #[a, b, c, d] t)).alloc (.cells #[a', b', c', d'] t)).alloc (.cells #[p, q, r, s] t)).heap.size := by simp
  have hs0 : w.heap.size < (((w.alloc (.cells #[a, b, c, d] t)).alloc (.cells #[a', b', c', d'] t)).alloc (.cells #[p, q, r, s] t)).heap.size := by simp <;> omega
  have hs1 : w.heap.size + 1 < (((w.alloc (.cells #[a, b, c, d] t)).alloc (.cells #[a', b', c', d'] t)).alloc (.cells #[p, q, r, s] t)).heap.size := by simp <;> omega
  refine ⟨((((Below.refl _ _).alloc (Nat.le_refl _) _).alloc (by simp) _).alloc (by simp; omega) _).trans (hb.mono (by omega)), Nat.lt_of_lt_of_le hs hb.size, ⟨?_, ?_, ?_, ?_⟩, ⟨?_, ?_, ?_⟩, ⟨?_, ?_, ?_, ?_⟩, ?_, ?_, ?_, ?_⟩
  · rw [hb.cell (p := ⟨w.heap.size, 0, none⟩) hs0]; simp [go_sem]
  · rw [hb.cell (p := ⟨w.heap.size, 1, none⟩) hs0]; simp [go_sem]
  · rw [hb.cell (p := ⟨w.heap.size, 2, none⟩) hs0]; simp [go_sem]
  · rw [hb.cell (p := ⟨w.heap.size, 3, none⟩) hs0]; simp [go_sem]
  · rw [hb.cell (p := ⟨w.heap.size + 1, 0, none⟩) hs1]; simp [go_sem]
  · rw [hb.cell (p := ⟨w.heap.size + 1, 1, none⟩) hs1]; simp [go_sem]
  · rw [hb.cell (p := ⟨w.heap.size + 1, 2, none⟩) hs1]; simp [go_sem]
  · rw [hb.cell (p := ⟨w.heap.size + 1 + 1, 0, none⟩) hs]; simp [go_sem]
  · rw [hb.cell (p := ⟨w.heap.size + 1 + 1, 1, none⟩) hs]; simp [go_sem]
  · rw [hb.cell (p := ⟨w.heap.size + 1 + 1, 2, none⟩) hs]; simp [go_sem]
  · rw [hb.cell (p := ⟨w.heap.size + 1 + 1, 3, none⟩) hs]; simp [go_sem]
  · rw [hb.frozen (p := ⟨w.heap.size + 1 + 1, 0, none⟩) hs]; simp [go_sem]
  · rw [hb.frozen (p := ⟨w.heap.size + 1 + 1, 1, none⟩) hs]; simp [go_sem]
  · rw [hb.frozen (p := ⟨w.heap.size + 1 + 1, 2, none⟩) hs]; simp [go_sem]
  · rw [hb.frozen (p := ⟨w.heap.size + 1 + 1, 3, none⟩) hs]; simp [go_sem]

set_option maxHeartbeats 3200000 in
theorem common_dir (l1 h1 s1 l2 h2 s2 : Int) (dn dn2 : Bool) (w : World) (a1 : -1000000 ≤ l1) (a2 : l1 ≤ 1000000) (a3 : -1000000 ≤ h1) (a4 : h1 ≤ 1000000) (a5 : 1 ≤ s1) (a6 : s1 ≤ 2000000) (c1 : -1000000 ≤ l2) (c2 : l2 ≤ 1000000) (c3 : -1000000 ≤ h2) (c4 : h2 ≤ 1000000) (c5 : 1 ≤ s2) (c6 : s2 ≤ 2000000) :
    Calls Try.prog 118 #[.agg #[.int .i64 l1, .int .i64 h1, .int .i64 s1, .bool dn], .agg #[.int .i64 l2, .int .i64 h2, .int .i64 s2, .bool dn2]] w (CommonDir l1 h1 s1 l2 h2 s2 dn w) := by
  go_enter Try.func118, Try.ntmps118
  go_wp2_with fail
  refine (euclid_any _ _ _ (by omega) (by omega) (by omega) (by omega)).mono ?_
  rintro e w1 ⟨d, x, g, rfl, hb1⟩
  obtain ⟨W1, z1, ⟨x0, x1, x2, x3⟩, ⟨y0, y1, y2⟩, ⟨r0, r1, r2, r3⟩, f0, f1, f2, f3⟩ := res4 hb1
  have G := Lib.hid g
  have d1 := g.pos a5
  have d2 := g.le a5
  have d3 := g.le' c5
  have xb1 := g.x1
  have xb2 := g.x2
  clear hb1 g
  by_cases hd : d ∣ l2 - l1
  · obtain ⟨k, hk⟩ := hd
    have HK := Lib.hid hk
    have hz : ((l2 - l1).tmod d != 0) = false := by rw [HK.out]; simp
    have kb : -2000000 ≤ k ∧ k ≤ 2000000 := by
      have e1 : d * k ≤ 2000000 := by omega
      have e2 : -2000000 ≤ d * k := by omega
      by_cases k0 : 0 ≤ k
      · have : 1 * k ≤ d * k := Int.mul_le_mul_of_nonneg_right d1 k0
        omega
      · have : d * k ≤ 1 * k := Int.mul_le_mul_of_nonpos_right d1 (by omega)
        omega
    have kx : -9000000000000 ≤ k * x ∧ k * x ≤ 9000000000000 := prod_small k x kb.1 kb.2 xb1 xb2
    have k1 : IntKind.i64.wrap ((l2 - l1).tdiv d) = k := by rw [HK.out, Int.mul_tdiv_cancel_left _ (by omega)]; exact IntWalk.i64_in _ (by omega)
    have k2 : IntKind.i64.wrap (k * x) = k * x := IntWalk.i64_in _ (by omega)
    have q2 := quo_bd s2 d (by omega) d1
    have q3 : 1 ≤ s2 / d := by
      obtain ⟨b', hb'⟩ := G.out.db
      rw [Int.ediv_eq_of_eq_mul_right (by omega) hb']
      by_cases c : 1 ≤ b'
      · exact c
      · have : d * b' ≤ d * 0 := Int.mul_le_mul_of_nonneg_left (by omega) (by omega)
        omega
    have k3 : IntKind.i64.wrap (s2.tdiv d) = s2 / d := IntWalk.i64_quo _ _ ⟨by omega, by omega, d1⟩
    have dz : ¬ d = 0 := by omega
    have t1 := Int.emod_nonneg (k * x) (show s2 / d ≠ 0 by omega)
    have t2 := Int.emod_lt_of_pos (k * x) (show 0 < s2 / d by omega)
    clear hk
    go_wp2_with fail
    refine wp_region_held_drew (S := (fun w' => w'.cell? ⟨w.heap.size, 0, none⟩ = some (.int .i64 l1) ∧ w'.cell? ⟨w.heap.size, 1, none⟩ = some (.int .i64 h1) ∧ w'.cell? ⟨w.heap.size, 2, none⟩ = some (.int .i64 s1) ∧ w'.cell? ⟨w.heap.size, 3, none⟩ = some (.bool dn) ∧ w'.cell? ⟨w.heap.size + 1, 0, none⟩ = some (.int .i64 l2) ∧ w'.cell? ⟨w.heap.size + 1, 1, none⟩ = some (.int .i64 h2) ∧ w'.cell? ⟨w.heap.size + 1, 2, none⟩ = some (.int .i64 s2))) (by kernel_rfl) ?_ (fun hHeld => ?_)
    · first | exact ⟨x0, x1, x2, x3, y0, y1, y2⟩ | exact hHeld | (simp [go_sem, *]; done) | go_keep
    refine wpAnyH_take (i := 0) (oi := { dst := some 31, op := Op.move (Operand.tmp 7), type := 3, pos := "sets.go:93", after := #[], guard := none }) (v := ?_) rfl (by kernel_rfl) (by kernel_rfl) (by kernel_rfl) (fun _ _ _ h => h) (Or.inl ⟨by rfl, ?_⟩) (by assumption) ?_
    rotate_left
    · (intro w hSw; (try dsimp only at hSw); go_simp; first | done | with_reducible rfl)
    try simp only [Act.put, List.setIfInBounds_toArray, List.set_cons_zero, List.set_cons_succ]
    refine wpAnyH_take (i := 1) (oi := { dst := some 32, op := Op.move (Operand.tmp 5), type := 3, pos := "sets.go:93", after := #[], guard := none }) (v := ?_) rfl (by kernel_rfl) (by kernel_rfl) (by kernel_rfl) (fun _ _ _ h => h) (Or.inl ⟨by rfl, ?_⟩) (by assumption) ?_
    rotate_left
    · (intro w hSw; (try dsimp only at hSw); go_simp; first | done | with_reducible rfl)
    try simp only [Act.put, List.setIfInBounds_toArray, List.set_cons_zero, List.set_cons_succ]
    refine wpAnyH_take (i := 2) (oi := { dst := some 33, op := Op.binOp BinOp.quo 3 (Operand.tmp 31) (Operand.tmp 32) 3, type := 3, pos := "sets.go:93", after := #[{ on := 0, ground := Ground.data }, { on := 1, ground := Ground.data }], guard := none }) (v := ?_) rfl (by kernel_rfl) (by kernel_rfl) (by kernel_rfl) (fun _ _ _ h => h) (Or.inl ⟨by rfl, ?_⟩) (by assumption) ?_
    rotate_left
    · (intro w hSw; (try dsimp only at hSw); go_simp; first | done | with_reducible rfl)
    try simp only [Act.put, List.setIfInBounds_toArray, List.set_cons_zero, List.set_cons_succ]
    refine wpAnyH_take (i := 3) (oi := { dst := some 34, op := Op.move (Operand.tmp 6), type := 3, pos := "sets.go:93", after := #[], guard := none }) (v := ?_) rfl (by kernel_rfl) (by kernel_rfl) (by kernel_rfl) (fun _ _ _ h => h) (Or.inl ⟨by rfl, ?_⟩) (by assumption) ?_
    rotate_left
    · (intro w hSw; (try dsimp only at hSw); go_simp; first | done | with_reducible rfl)
    try simp only [Act.put, List.setIfInBounds_toArray, List.set_cons_zero, List.set_cons_succ]
    refine wpAnyH_take (i := 4) (oi := { dst := some 35, op := Op.binOp BinOp.mul 3 (Operand.tmp 33) (Operand.tmp 34) 3, type := 3, pos := "sets.go:93", after := #[{ on := 2, ground := Ground.data }, { on := 3, ground := Ground.data }], guard := none }) (v := ?_) rfl (by kernel_rfl) (by kernel_rfl) (by kernel_rfl) (fun _ _ _ h => h) (Or.inl ⟨by rfl, ?_⟩) (by assumption) ?_
    rotate_left
    · (intro w hSw; (try dsimp only at hSw); go_simp; first | done | with_reducible rfl)
    try simp only [Act.put, List.setIfInBounds_toArray, List.set_cons_zero, List.set_cons_succ]
    refine wpAnyH_take (i := 5) (oi := { dst := some 36, op := Op.fieldAddr 95 (Operand.tmp 3) 2, type := 0, pos := "sets.go:93", after := #[], guard := none }) (v := ?_) rfl (by kernel_rfl) (by kernel_rfl) (by kernel_rfl) (fun _ _ _ h => h) (Or.inl ⟨by rfl, ?_⟩) (by assumption) ?_
    rotate_left
    · (intro w hSw; (try dsimp only at hSw); go_simp; first | done | with_reducible rfl)
    try simp only [Act.put, List.setIfInBounds_toArray, List.set_cons_zero, List.set_cons_succ]
    refine wpAnyH_take (i := 6) (oi := { dst := some 37, op := Op.load 3 (Operand.tmp 36), type := 3, pos := "sets.go:93", after := #[{ on := 5, ground := Ground.data }], guard := none }) (v := ?_) rfl (by kernel_rfl) (by kernel_rfl) (by kernel_rfl) (fun _ _ _ h => h) (Or.inl ⟨by rfl, ?_⟩) (by assumption) ?_
    rotate_left
    · (intro w hSw; (try dsimp only at hSw); go_simp; first | done | with_reducible rfl)
    try simp only [Act.put, List.setIfInBounds_toArray, List.set_cons_zero, List.set_cons_succ]
    refine wpAnyH_take (i := 7) (oi := { dst := some 38, op := Op.move (Operand.tmp 5), type := 3, pos := "sets.go:93", after := #[], guard := none }) (v := ?_) rfl (by kernel_rfl) (by kernel_rfl) (by kernel_rfl) (fun _ _ _ h => h) (Or.inl ⟨by rfl, ?_⟩) (by assumption) ?_
    rotate_left
    · (intro w hSw; (try dsimp only at hSw); go_simp; first | done | with_reducible rfl)
    try simp only [Act.put, List.setIfInBounds_toArray, List.set_cons_zero, List.set_cons_succ]
    refine wpAnyH_take (i := 8) (oi := { dst := some 39, op := Op.binOp BinOp.quo 3 (Operand.tmp 37) (Operand.tmp 38) 3, type := 3, pos := "sets.go:93", after := #[{ on := 6, ground := Ground.data }, { on := 7, ground := Ground.data }], guard := none }) (v := ?_) rfl (by kernel_rfl) (by kernel_rfl) (by kernel_rfl) (fun _ _ _ h => h) (Or.inl ⟨by rfl, ?_⟩) (by assumption) ?_
    rotate_left
    · (intro w hSw; (try dsimp only at hSw); go_simp; first | done | with_reducible rfl)
    try simp only [Act.put, List.setIfInBounds_toArray, List.set_cons_zero, List.set_cons_succ]
    refine wpAnyH_ready (rs := [9]) (by kernel_rfl) (by simp) ?_
    refine AllReadyH.cons (o := { dst := some 40, op := Op.call { callee := Callee.value (Operand.func 149), args := #[Operand.tmp 35, Operand.tmp 39], argTypes := #[3, 3] }, type := 3, pos := "sets.go:93", after := #[{ on := 4, ground := Ground.data }, { on := 8, ground := Ground.data }], guard := none }) rfl (fun K hK => ?_) AllReadyH.nil
    go_simp
    refine (modulo_any _ _ _ (by omega) (by omega)).mono ?_
    rintro e w' ⟨rfl, rfl⟩
    go_wp2_with fail
    refine hK.out _ _ ?_ (fun hHeld9 => ?_)
    · first | exact ⟨x0, x1, x2, x3, y0, y1, y2⟩ | exact hHeld | (simp [go_sem, *]; done) | go_keep
    clear hK K hHeld
    have hHeld := hHeld9
    clear hHeld9
    try simp only [Act.put, List.setIfInBounds_toArray, List.set_cons_zero, List.set_cons_succ]
    refine wpAnyH_take (i := 10) (oi := { dst := some 8, op := Op.assign (Operand.tmp 40), type := 3, pos := "sets.go:93", after := #[{ on := 9, ground := Ground.data }, { on := 9, ground := Ground.chain }, { on := 0, ground := Ground.phase }, { on := 1, ground := Ground.phase }, { on := 2, ground := Ground.phase }, { on := 3, ground := Ground.phase }, { on := 4, ground := Ground.phase }, { on := 5, ground := Ground.phase }, { on := 6, ground := Ground.phase }, { on := 7, ground := Ground.phase }, { on := 8, ground := Ground.phase }, { on := 9, ground := Ground.phase }], guard := none }) (v := ?_) rfl (by kernel_rfl) (by kernel_rfl) (by kernel_rfl) (fun _ _ _ h => h) (Or.inl ⟨by rfl, ?_⟩) (by assumption) ?_
    rotate_left
    · (intro w hSw; (try dsimp only at hSw); go_simp; first | done | with_reducible rfl)
    try simp only [Act.put, List.setIfInBounds_toArray, List.set_cons_zero, List.set_cons_succ]
    refine wpAnyH_done (by kernel_rfl) ?_ _
    clear k1 k2 k3 hHeld
    obtain ⟨t, ht⟩ : ∃ t, k * x % (s2 / d) = t := ⟨_, rfl⟩
    rw [ht] at t1 t2
    have TT := Lib.hid ht
    simp only [ht]
    clear ht
    have ts := prod_small2 t s1 t1 (by omega) (by omega) a6
    obtain ⟨L1, L2, L3, L4, L5⟩ := lcm_facts G.out a5 c5
    have ls := prod_small2 (s1 / d) s2 (by omega) (by omega) (by omega) c6
    have V := Lib.hid (And.intro L2 L3)
    clear L2 L3
    have k4 : IntKind.i64.wrap (s1.tdiv d) = s1 / d := IntWalk.i64_quo _ _ ⟨by omega, by omega, d1⟩
    have k5 : IntKind.i64.wrap (s1 / d * s2) = s1 / d * s2 := IntWalk.i64_in _ (by omega)
    go_wp2_with fail
    refine wp_region_held_drew (S := (fun w' => w'.cell? ⟨w.heap.size, 0, none⟩ = some (.int .i64 l1) ∧ w'.cell? ⟨w.heap.size, 1, none⟩ = some (.int .i64 h1) ∧ w'.cell? ⟨w.heap.size, 2, none⟩ = some (.int .i64 s1) ∧ w'.cell? ⟨w.heap.size, 3, none⟩ = some (.bool dn) ∧ w'.cell? ⟨w.heap.size + 1, 0, none⟩ = some (.int .i64 l2) ∧ w'.cell? ⟨w.heap.size + 1, 1, none⟩ = some (.int .i64 h2) ∧ w'.cell? ⟨w.heap.size + 1, 2, none⟩ = some (.int .i64 s2))) (by kernel_rfl) ?_ (fun hHeld => ?_)
    · first | exact ⟨x0, x1, x2, x3, y0, y1, y2⟩ | exact hHeld | (simp [go_sem, *]; done) | go_keep
    refine wpAnyH_take (i := 0) (oi := { dst := some 48, op := Op.fieldAddr 95 (Operand.tmp 2) 2, type := 0, pos := "sets.go:96", after := #[], guard := none }) (v := ?_) rfl (by kernel_rfl) (by kernel_rfl) (by kernel_rfl) (fun _ _ _ h => h) (Or.inl ⟨by rfl, ?_⟩) (by assumption) ?_
    rotate_left
    · (intro w hSw; (try dsimp only at hSw); go_simp; first | done | with_reducible rfl)
    try simp only [Act.put, List.setIfInBounds_toArray, List.set_cons_zero, List.set_cons_succ]
    refine wpAnyH_take (i := 1) (oi := { dst := some 49, op := Op.load 3 (Operand.tmp 48), type := 3, pos := "sets.go:96", after := #[{ on := 0, ground := Ground.data }], guard := none }) (v := ?_) rfl (by kernel_rfl) (by kernel_rfl) (by kernel_rfl) (fun _ _ _ h => h) (Or.inl ⟨by rfl, ?_⟩) (by assumption) ?_
    rotate_left
    · (intro w hSw; (try dsimp only at hSw); go_simp; first | done | with_reducible rfl)
    try simp only [Act.put, List.setIfInBounds_toArray, List.set_cons_zero, List.set_cons_succ]
    refine wpAnyH_take (i := 2) (oi := { dst := some 50, op := Op.move (Operand.tmp 5), type := 3, pos := "sets.go:96", after := #[], guard := none }) (v := ?_) rfl (by kernel_rfl) (by kernel_rfl) (by kernel_rfl) (fun _ _ _ h => h) (Or.inl ⟨by rfl, ?_⟩) (by assumption) ?_
    rotate_left
    · (intro w hSw; (try dsimp only at hSw); go_simp; first | done | with_reducible rfl)
    try simp only [Act.put, List.setIfInBounds_toArray, List.set_cons_zero, List.set_cons_succ]
    refine wpAnyH_take (i := 3) (oi := { dst := some 51, op := Op.binOp BinOp.quo 3 (Operand.tmp 49) (Operand.tmp 50) 3, type := 3, pos := "sets.go:96", after := #[{ on := 1, ground := Ground.data }, { on := 2, ground := Ground.data }], guard := none }) (v := ?_) rfl (by kernel_rfl) (by kernel_rfl) (by kernel_rfl) (fun _ _ _ h => h) (Or.inl ⟨by rfl, ?_⟩) (by assumption) ?_
    rotate_left
    · (intro w hSw; (try dsimp only at hSw); go_simp; first | done | with_reducible rfl)
    try simp only [Act.put, List.setIfInBounds_toArray, List.set_cons_zero, List.set_cons_succ]
    refine wpAnyH_take (i := 4) (oi := { dst := some 52, op := Op.fieldAddr 95 (Operand.tmp 3) 2, type := 0, pos := "sets.go:96", after := #[], guard := none }) (v := ?_) rfl (by kernel_rfl) (by kernel_rfl) (by kernel_rfl) (fun _ _ _ h => h) (Or.inl ⟨by rfl, ?_⟩) (by assumption) ?_
    rotate_left
    · (intro w hSw; (try dsimp only at hSw); go_simp; first | done | with_reducible rfl)
    try simp only [Act.put, List.setIfInBounds_toArray, List.set_cons_zero, List.set_cons_succ]
    refine wpAnyH_take (i := 5) (oi := { dst := some 53, op := Op.load 3 (Operand.tmp 52), type := 3, pos := "sets.go:96", after := #[{ on := 4, ground := Ground.data }], guard := none }) (v := ?_) rfl (by kernel_rfl) (by kernel_rfl) (by kernel_rfl) (fun _ _ _ h => h) (Or.inl ⟨by rfl, ?_⟩) (by assumption) ?_
    rotate_left
    · (intro w hSw; (try dsimp only at hSw); go_simp; first | done | with_reducible rfl)
    try simp only [Act.put, List.setIfInBounds_toArray, List.set_cons_zero, List.set_cons_succ]
    refine wpAnyH_take (i := 6) (oi := { dst := some 54, op := Op.binOp BinOp.mul 3 (Operand.tmp 51) (Operand.tmp 53) 3, type := 3, pos := "sets.go:96", after := #[{ on := 3, ground := Ground.data }, { on := 5, ground := Ground.data }], guard := none }) (v := ?_) rfl (by kernel_rfl) (by kernel_rfl) (by kernel_rfl) (fun _ _ _ h => h) (Or.inl ⟨by rfl, ?_⟩) (by assumption) ?_
    rotate_left
    · (intro w hSw; (try dsimp only at hSw); go_simp; first | done | with_reducible rfl)
    try simp only [Act.put, List.setIfInBounds_toArray, List.set_cons_zero, List.set_cons_succ]
    refine wpAnyH_take (i := 7) (oi := { dst := some 10, op := Op.assign (Operand.tmp 54), type := 3, pos := "sets.go:96", after := #[{ on := 6, ground := Ground.data }, { on := 0, ground := Ground.phase }, { on := 1, ground := Ground.phase }, { on := 2, ground := Ground.phase }, { on := 3, ground := Ground.phase }, { on := 4, ground := Ground.phase }, { on := 5, ground := Ground.phase }, { on := 6, ground := Ground.phase }], guard := none }) (v := ?_) rfl (by kernel_rfl) (by kernel_rfl) (by kernel_rfl) (fun _ _ _ h => h) (Or.inl ⟨by rfl, ?_⟩) (by assumption) ?_
    rotate_left
    · (intro w hSw; (try dsimp only at hSw); go_simp; first | done | with_reducible rfl)
    try simp only [Act.put, List.setIfInBounds_toArray, List.set_cons_zero, List.set_cons_succ]
    refine wpAnyH_done (by kernel_rfl) ?_ _
    clear k4 k5 hHeld
    obtain ⟨S, hS⟩ : ∃ S, s1 / d * s2 = S := ⟨_, rfl⟩
    obtain ⟨M, hM⟩ : ∃ M, l1 + t * s1 = M := ⟨_, rfl⟩
    obtain ⟨A, hA⟩ : ∃ A, A = max l1 l2 := ⟨_, rfl⟩
    obtain ⟨Z, hZ⟩ : ∃ Z, Z = min h1 h2 := ⟨_, rfl⟩
    have km : (if l1 < l2 then l2 else l1) = A := by rw [hA]; split <;> omega
    have kn : (if h2 < h1 then h2 else h1) = Z := by rw [hZ]; split <;> omega
    have Ab : -1000000 ≤ A ∧ A ≤ 1000000 := by omega
    have Zb : -1000000 ≤ Z ∧ Z ≤ 1000000 := by omega
    have Mb : -1000000 ≤ M ∧ M ≤ 4000001000000 := by omega
    have Sb : 1 ≤ S ∧ S ≤ 4000000000000 := by omega
    simp only [hS, hM]
    have HS := Lib.hid hS
    have HM := Lib.hid hM
    have HA := Lib.hid hA
    have HZ := Lib.hid hZ
    clear hS hM hA hZ ts L1 L4 L5 ls
    go_wp2_with fail
    refine wp_region_held_drew (S := (fun w' => w'.cell? ⟨w.heap.size, 0, none⟩ = some (.int .i64 l1) ∧ w'.cell? ⟨w.heap.size, 1, none⟩ = some (.int .i64 h1) ∧ w'.cell? ⟨w.heap.size, 2, none⟩ = some (.int .i64 s1) ∧ w'.cell? ⟨w.heap.size, 3, none⟩ = some (.bool dn) ∧ w'.cell? ⟨w.heap.size + 1, 0, none⟩ = some (.int .i64 l2) ∧ w'.cell? ⟨w.heap.size + 1, 1, none⟩ = some (.int .i64 h2) ∧ w'.cell? ⟨w.heap.size + 1, 2, none⟩ = some (.int .i64 s2))) (by kernel_rfl) ?_ (fun hHeld => ?_)
    · first | exact ⟨x0, x1, x2, x3, y0, y1, y2⟩ | exact hHeld | (simp [go_sem, *]; done) | go_keep
    refine wpAnyH_take (i := 0) (oi := { dst := some 55, op := Op.fieldAddr 95 (Operand.tmp 2) 0, type := 0, pos := "sets.go:97", after := #[], guard := none }) (v := ?_) rfl (by kernel_rfl) (by kernel_rfl) (by kernel_rfl) (fun _ _ _ h => h) (Or.inl ⟨by rfl, ?_⟩) (by assumption) ?_
    rotate_left
    · (intro w hSw; (try dsimp only at hSw); go_simp; first | done | with_reducible rfl)
    try simp only [Act.put, List.setIfInBounds_toArray, List.set_cons_zero, List.set_cons_succ]
    refine wpAnyH_take (i := 1) (oi := { dst := some 56, op := Op.load 3 (Operand.tmp 55), type := 3, pos := "sets.go:97", after := #[{ on := 0, ground := Ground.data }], guard := none }) (v := ?_) rfl (by kernel_rfl) (by kernel_rfl) (by kernel_rfl) (fun _ _ _ h => h) (Or.inl ⟨by rfl, ?_⟩) (by assumption) ?_
    rotate_left
    · (intro w hSw; (try dsimp only at hSw); go_simp; first | done | with_reducible rfl)
    try simp only [Act.put, List.setIfInBounds_toArray, List.set_cons_zero, List.set_cons_succ]
    refine wpAnyH_take (i := 2) (oi := { dst := some 57, op := Op.fieldAddr 95 (Operand.tmp 3) 0, type := 0, pos := "sets.go:97", after := #[], guard := none }) (v := ?_) rfl (by kernel_rfl) (by kernel_rfl) (by kernel_rfl) (fun _ _ _ h => h) (Or.inl ⟨by rfl, ?_⟩) (by assumption) ?_
    rotate_left
    · (intro w hSw; (try dsimp only at hSw); go_simp; first | done | with_reducible rfl)
    try simp only [Act.put, List.setIfInBounds_toArray, List.set_cons_zero, List.set_cons_succ]
    refine wpAnyH_take (i := 3) (oi := { dst := some 58, op := Op.load 3 (Operand.tmp 57), type := 3, pos := "sets.go:97", after := #[{ on := 2, ground := Ground.data }], guard := none }) (v := ?_) rfl (by kernel_rfl) (by kernel_rfl) (by kernel_rfl) (fun _ _ _ h => h) (Or.inl ⟨by rfl, ?_⟩) (by assumption) ?_
    rotate_left
    · (intro w hSw; (try dsimp only at hSw); go_simp; first | done | with_reducible rfl)
    try simp only [Act.put, List.setIfInBounds_toArray, List.set_cons_zero, List.set_cons_succ]
    refine wpAnyH_take (i := 4) (oi := { dst := some 59, op := Op.call { callee := Callee.builtin Builtin.max, args := #[Operand.tmp 56, Operand.tmp 58], argTypes := #[3, 3] }, type := 3, pos := "sets.go:97", after := #[{ on := 1, ground := Ground.data }, { on := 3, ground := Ground.data }], guard := none }) (v := ?_) rfl (by kernel_rfl) (by kernel_rfl) (by kernel_rfl) (fun _ _ _ h => h) (Or.inl ⟨by rfl, ?_⟩) (by assumption) ?_
    rotate_left
    · (intro w hSw; (try dsimp only at hSw); go_simp; first | done | with_reducible rfl)
    try simp only [Act.put, List.setIfInBounds_toArray, List.set_cons_zero, List.set_cons_succ]
    refine wpAnyH_take (i := 5) (oi := { dst := some 60, op := Op.fieldAddr 95 (Operand.tmp 2) 1, type := 0, pos := "sets.go:97", after := #[], guard := none }) (v := ?_) rfl (by kernel_rfl) (by kernel_rfl) (by kernel_rfl) (fun _ _ _ h => h) (Or.inl ⟨by rfl, ?_⟩) (by assumption) ?_
    rotate_left
    · (intro w hSw; (try dsimp only at hSw); go_simp; first | done | with_reducible rfl)
    try simp only [Act.put, List.setIfInBounds_toArray, List.set_cons_zero, List.set_cons_succ]
    refine wpAnyH_take (i := 6) (oi := { dst := some 61, op := Op.load 3 (Operand.tmp 60), type := 3, pos := "sets.go:97", after := #[{ on := 5, ground := Ground.data }], guard := none }) (v := ?_) rfl (by kernel_rfl) (by kernel_rfl) (by kernel_rfl) (fun _ _ _ h => h) (Or.inl ⟨by rfl, ?_⟩) (by assumption) ?_
    rotate_left
    · (intro w hSw; (try dsimp only at hSw); go_simp; first | done | with_reducible rfl)
    try simp only [Act.put, List.setIfInBounds_toArray, List.set_cons_zero, List.set_cons_succ]
    refine wpAnyH_take (i := 7) (oi := { dst := some 62, op := Op.fieldAddr 95 (Operand.tmp 3) 1, type := 0, pos := "sets.go:97", after := #[], guard := none }) (v := ?_) rfl (by kernel_rfl) (by kernel_rfl) (by kernel_rfl) (fun _ _ _ h => h) (Or.inl ⟨by rfl, ?_⟩) (by assumption) ?_
    rotate_left
    · (intro w hSw; (try dsimp only at hSw); go_simp; first | done | with_reducible rfl)
    try simp only [Act.put, List.setIfInBounds_toArray, List.set_cons_zero, List.set_cons_succ]
    refine wpAnyH_take (i := 8) (oi := { dst := some 63, op := Op.load 3 (Operand.tmp 62), type := 3, pos := "sets.go:97", after := #[{ on := 7, ground := Ground.data }], guard := none }) (v := ?_) rfl (by kernel_rfl) (by kernel_rfl) (by kernel_rfl) (fun _ _ _ h => h) (Or.inl ⟨by rfl, ?_⟩) (by assumption) ?_
    rotate_left
    · (intro w hSw; (try dsimp only at hSw); go_simp; first | done | with_reducible rfl)
    try simp only [Act.put, List.setIfInBounds_toArray, List.set_cons_zero, List.set_cons_succ]
    refine wpAnyH_take (i := 9) (oi := { dst := some 64, op := Op.call { callee := Callee.builtin Builtin.min, args := #[Operand.tmp 61, Operand.tmp 63], argTypes := #[3, 3] }, type := 3, pos := "sets.go:97", after := #[{ on := 6, ground := Ground.data }, { on := 8, ground := Ground.data }], guard := none }) (v := ?_) rfl (by kernel_rfl) (by kernel_rfl) (by kernel_rfl) (fun _ _ _ h => h) (Or.inl ⟨by rfl, ?_⟩) (by assumption) ?_
    rotate_left
    · (intro w hSw; (try dsimp only at hSw); go_simp; first | done | with_reducible rfl)
    try simp only [Act.put, List.setIfInBounds_toArray, List.set_cons_zero, List.set_cons_succ]
    refine wpAnyH_take (i := 10) (oi := { dst := some 11, op := Op.assign (Operand.tmp 59), type := 3, pos := "sets.go:97", after := #[{ on := 4, ground := Ground.data }, { on := 0, ground := Ground.phase }, { on := 1, ground := Ground.phase }, { on := 2, ground := Ground.phase }, { on := 3, ground := Ground.phase }, { on := 4, ground := Ground.phase }, { on := 5, ground := Ground.textOnly Departure.lateStores }, { on := 6, ground := Ground.textOnly Departure.lateStores }, { on := 7, ground := Ground.textOnly Departure.lateStores }, { on := 8, ground := Ground.textOnly Departure.lateStores }, { on := 9, ground := Ground.textOnly Departure.lateStoresUnsure }], guard := none }) (v := ?_) rfl (by kernel_rfl) (by kernel_rfl) (by kernel_rfl) (fun _ _ _ h => h) (Or.inl ⟨by rfl, ?_⟩) (by assumption) ?_
    rotate_left
    · (intro w hSw; (try dsimp only at hSw); go_simp; first | done | with_reducible rfl)
    try simp only [Act.put, List.setIfInBounds_toArray, List.set_cons_zero, List.set_cons_succ]
    refine wpAnyH_take (i := 11) (oi := { dst := some 12, op := Op.assign (Operand.tmp 64), type := 3, pos := "sets.go:97", after := #[{ on := 9, ground := Ground.data }, { on := 10, ground := Ground.chain }, { on := 0, ground := Ground.phase }, { on := 1, ground := Ground.phase }, { on := 2, ground := Ground.phase }, { on := 3, ground := Ground.phase }, { on := 4, ground := Ground.phase }, { on := 5, ground := Ground.phase }, { on := 6, ground := Ground.phase }, { on := 7, ground := Ground.phase }, { on := 8, ground := Ground.phase }, { on := 9, ground := Ground.phase }, { on := 10, ground := Ground.phase }], guard := none }) (v := ?_) rfl (by kernel_rfl) (by kernel_rfl) (by kernel_rfl) (fun _ _ _ h => h) (Or.inl ⟨by rfl, ?_⟩) (by assumption) ?_
    rotate_left
    · (intro w hSw; (try dsimp only at hSw); go_simp; first | done | with_reducible rfl)
    try simp only [Act.put, List.setIfInBounds_toArray, List.set_cons_zero, List.set_cons_succ]
    refine wpAnyH_done (by kernel_rfl) ?_ _
    clear km kn hHeld
    have u1 := Int.emod_nonneg (M - A) (show S ≠ 0 by omega)
    have u2 := Int.emod_lt_of_pos (M - A) (show 0 < S by omega)
    have v1 := Int.emod_nonneg (Z - M) (show S ≠ 0 by omega)
    have v2 := Int.emod_lt_of_pos (Z - M) (show 0 < S by omega)
    have k6 : IntKind.i64.wrap (M - A) = M - A := IntWalk.i64_in _ (by omega)
    have k7 : IntKind.i64.wrap (Z - M) = Z - M := IntWalk.i64_in _ (by omega)
    have k8 : IntKind.i64.wrap (A + (M - A) % S) = A + (M - A) % S := IntWalk.i64_in _ (by omega)
    have hne : ¬ w.heap.size = w.heap.size + 1 + 1 := by omega
    have hne' : ¬ w.heap.size + 1 + 1 = w.heap.size := by omega
    have k9 : IntKind.i64.wrap (Z - (Z - M) % S) = Z - (Z - M) % S := IntWalk.i64_in _ (by omega)
    go_wp2_with fail
    refine wp_region_held_drew (S := (fun w' => w'.cell? ⟨w.heap.size, 0, none⟩ = some (.int .i64 l1) ∧ w'.cell? ⟨w.heap.size, 1, none⟩ = some (.int .i64 h1) ∧ w'.cell? ⟨w.heap.size, 2, none⟩ = some (.int .i64 s1) ∧ w'.cell? ⟨w.heap.size, 3, none⟩ = some (.bool dn) ∧ w'.cell? ⟨w.heap.size + 1, 0, none⟩ = some (.int .i64 l2) ∧ w'.cell? ⟨w.heap.size + 1, 1, none⟩ = some (.int .i64 h2) ∧ w'.cell? ⟨w.heap.size + 1, 2, none⟩ = some (.int .i64 s2))) (by kernel_rfl) ?_ (fun hHeld => ?_)
    · first | exact ⟨x0, x1, x2, x3, y0, y1, y2⟩ | exact hHeld | (simp [go_sem, *]; done) | go_keep
    refine wpAnyH_take (i := 0) (oi := { dst := some 65, op := Op.move (Operand.tmp 11), type := 3, pos := "sets.go:98", after := #[], guard := none }) (v := ?_) rfl (by kernel_rfl) (by kernel_rfl) (by kernel_rfl) (fun _ _ _ h => h) (Or.inl ⟨by rfl, ?_⟩) (by assumption) ?_
    rotate_left
    · (intro w hSw; (try dsimp only at hSw); go_simp; first | done | with_reducible rfl)
    try simp only [Act.put, List.setIfInBounds_toArray, List.set_cons_zero, List.set_cons_succ]
    refine wpAnyH_take (i := 1) (oi := { dst := some 66, op := Op.move (Operand.tmp 9), type := 3, pos := "sets.go:98", after := #[], guard := none }) (v := ?_) rfl (by kernel_rfl) (by kernel_rfl) (by kernel_rfl) (fun _ _ _ h => h) (Or.inl ⟨by rfl, ?_⟩) (by assumption) ?_
    rotate_left
    · (intro w hSw; (try dsimp only at hSw); go_simp; first | done | with_reducible rfl)
    try simp only [Act.put, List.setIfInBounds_toArray, List.set_cons_zero, List.set_cons_succ]
    refine wpAnyH_take (i := 2) (oi := { dst := some 67, op := Op.move (Operand.tmp 11), type := 3, pos := "sets.go:98", after := #[], guard := none }) (v := ?_) rfl (by kernel_rfl) (by kernel_rfl) (by kernel_rfl) (fun _ _ _ h => h) (Or.inl ⟨by rfl, ?_⟩) (by assumption) ?_
    rotate_left
    · (intro w hSw; (try dsimp only at hSw); go_simp; first | done | with_reducible rfl)
    try simp only [Act.put, List.setIfInBounds_toArray, List.set_cons_zero, List.set_cons_succ]
    refine wpAnyH_take (i := 3) (oi := { dst := some 68, op := Op.binOp BinOp.sub 3 (Operand.tmp 66) (Operand.tmp 67) 3, type := 3, pos := "sets.go:98", after := #[{ on := 1, ground := Ground.data }, { on := 2, ground := Ground.data }], guard := none }) (v := ?_) rfl (by kernel_rfl) (by kernel_rfl) (by kernel_rfl) (fun _ _ _ h => h) (Or.inl ⟨by rfl, ?_⟩) (by assumption) ?_
    rotate_left
    · (intro w hSw; (try dsimp only at hSw); go_simp; first | done | with_reducible rfl)
    try simp only [Act.put, List.setIfInBounds_toArray, List.set_cons_zero, List.set_cons_succ]
    refine wpAnyH_take (i := 4) (oi := { dst := some 69, op := Op.move (Operand.tmp 10), type := 3, pos := "sets.go:98", after := #[], guard := none }) (v := ?_) rfl (by kernel_rfl) (by kernel_rfl) (by kernel_rfl) (fun _ _ _ h => h) (Or.inl ⟨by rfl, ?_⟩) (by assumption) ?_
    rotate_left
    · (intro w hSw; (try dsimp only at hSw); go_simp; first | done | with_reducible rfl)
    try simp only [Act.put, List.setIfInBounds_toArray, List.set_cons_zero, List.set_cons_succ]
    refine wpAnyH_take (i := 7) (oi := { dst := some 72, op := Op.move (Operand.tmp 12), type := 3, pos := "sets.go:98", after := #[], guard := none }) (v := ?_) rfl (by kernel_rfl) (by kernel_rfl) (by kernel_rfl) (fun _ _ _ h => h) (Or.inl ⟨by rfl, ?_⟩) (by assumption) ?_
    rotate_left
    · (intro w hSw; (try dsimp only at hSw); go_simp; first | done | with_reducible rfl)
    try simp only [Act.put, List.setIfInBounds_toArray, List.set_cons_zero, List.set_cons_succ]
    refine wpAnyH_take (i := 8) (oi := { dst := some 73, op := Op.move (Operand.tmp 12), type := 3, pos := "sets.go:98", after := #[], guard := none }) (v := ?_) rfl (by kernel_rfl) (by kernel_rfl) (by kernel_rfl) (fun _ _ _ h => h) (Or.inl ⟨by rfl, ?_⟩) (by assumption) ?_
    rotate_left
    · (intro w hSw; (try dsimp only at hSw); go_simp; first | done | with_reducible rfl)
    try simp only [Act.put, List.setIfInBounds_toArray, List.set_cons_zero, List.set_cons_succ]
    refine wpAnyH_take (i := 9) (oi := { dst := some 74, op := Op.move (Operand.tmp 9), type := 3, pos := "sets.go:98", after := #[], guard := none }) (v := ?_) rfl (by kernel_rfl) (by kernel_rfl) (by kernel_rfl) (fun _ _ _ h => h) (Or.inl ⟨by rfl, ?_⟩) (by assumption) ?_
    rotate_left
    · (intro w hSw; (try dsimp only at hSw); go_simp; first | done | with_reducible rfl)
    try simp only [Act.put, List.setIfInBounds_toArray, List.set_cons_zero, List.set_cons_succ]
    refine wpAnyH_take (i := 10) (oi := { dst := some 75, op := Op.binOp BinOp.sub 3 (Operand.tmp 73) (Operand.tmp 74) 3, type := 3, pos := "sets.go:98", after := #[{ on := 8, ground := Ground.data }, { on := 9, ground := Ground.data }], guard := none }) (v := ?_) rfl (by kernel_rfl) (by kernel_rfl) (by kernel_rfl) (fun _ _ _ h => h) (Or.inl ⟨by rfl, ?_⟩) (by assumption) ?_
    rotate_left
    · (intro w hSw; (try dsimp only at hSw); go_simp; first | done | with_reducible rfl)
    try simp only [Act.put, List.setIfInBounds_toArray, List.set_cons_zero, List.set_cons_succ]
    refine wpAnyH_take (i := 11) (oi := { dst := some 76, op := Op.move (Operand.tmp 10), type := 3, pos := "sets.go:98", after := #[], guard := none }) (v := ?_) rfl (by kernel_rfl) (by kernel_rfl) (by kernel_rfl) (fun _ _ _ h => h) (Or.inl ⟨by rfl, ?_⟩) (by assumption) ?_
    rotate_left
    · (intro w hSw; (try dsimp only at hSw); go_simp; first | done | with_reducible rfl)
    try simp only [Act.put, List.setIfInBounds_toArray, List.set_cons_zero, List.set_cons_succ]
    refine wpAnyH_take (i := 14) (oi := { dst := some 79, op := Op.move (Operand.tmp 10), type := 3, pos := "sets.go:98", after := #[], guard := none }) (v := ?_) rfl (by kernel_rfl) (by kernel_rfl) (by kernel_rfl) (fun _ _ _ h => h) (Or.inl ⟨by rfl, ?_⟩) (by assumption) ?_
    rotate_left
    · (intro w hSw; (try dsimp only at hSw); go_simp; first | done | with_reducible rfl)
    try simp only [Act.put, List.setIfInBounds_toArray, List.set_cons_zero, List.set_cons_succ]
    refine wpAnyH_take (i := 15) (oi := { dst := some 80, op := Op.fieldAddr 95 (Operand.tmp 2) 3, type := 0, pos := "sets.go:98", after := #[], guard := none }) (v := ?_) rfl (by kernel_rfl) (by kernel_rfl) (by kernel_rfl) (fun _ _ _ h => h) (Or.inl ⟨by rfl, ?_⟩) (by assumption) ?_
    rotate_left
    · (intro w hSw; (try dsimp only at hSw); go_simp; first | done | with_reducible rfl)
    try simp only [Act.put, List.setIfInBounds_toArray, List.set_cons_zero, List.set_cons_succ]
    refine wpAnyH_take (i := 16) (oi := { dst := some 81, op := Op.load 4 (Operand.tmp 80), type := 4, pos := "sets.go:98", after := #[{ on := 15, ground := Ground.data }], guard := none }) (v := ?_) rfl (by kernel_rfl) (by kernel_rfl) (by kernel_rfl) (fun _ _ _ h => h) (Or.inl ⟨by rfl, ?_⟩) (by assumption) ?_
    rotate_left
    · (intro w hSw; (try dsimp only at hSw); go_simp; first | done | with_reducible rfl)
    try simp only [Act.put, List.setIfInBounds_toArray, List.set_cons_zero, List.set_cons_succ]
    refine wpAnyH_ready (rs := [5]) (by kernel_rfl) (by simp) ?_
    refine AllReadyH.cons (o := { dst := some 70, op := Op.call { callee := Callee.value (Operand.func 149), args := #[Operand.tmp 68, Operand.tmp 69], argTypes := #[3, 3] }, type := 3, pos := "sets.go:99", after := #[{ on := 3, ground := Ground.data }, { on := 4, ground := Ground.data }], guard := none }) rfl (fun K hK => ?_) AllReadyH.nil
    go_simp
    refine (modulo_any _ _ _ (by omega) (by omega)).mono ?_
    rintro e w' ⟨rfl, rfl⟩
    go_wp2_with fail
    refine hK.out _ _ ?_ (fun hHeld5 => ?_)
    · first | exact ⟨x0, x1, x2, x3, y0, y1, y2⟩ | exact hHeld | (simp [go_sem, *]; done) | go_keep
    clear hK K hHeld
    have hHeld := hHeld5
    clear hHeld5
    try simp only [Act.put, List.setIfInBounds_toArray, List.set_cons_zero, List.set_cons_succ]
    refine wpAnyH_take (i := 6) (oi := { dst := some 71, op := Op.binOp BinOp.add 3 (Operand.tmp 65) (Operand.tmp 70) 3, type := 3, pos := "sets.go:98", after := #[{ on := 0, ground := Ground.data }, { on := 5, ground := Ground.data }], guard := none }) (v := ?_) rfl (by kernel_rfl) (by kernel_rfl) (by kernel_rfl) (fun _ _ _ h => h) (Or.inl ⟨by rfl, ?_⟩) (by assumption) ?_
    rotate_left
    · (intro w hSw; (try dsimp only at hSw); go_simp; first | done | with_reducible rfl)
    try simp only [Act.put, List.setIfInBounds_toArray, List.set_cons_zero, List.set_cons_succ]
    refine wpAnyH_ready (rs := [12]) (by kernel_rfl) (by simp) ?_
    refine AllReadyH.cons (o := { dst := some 77, op := Op.call { callee := Callee.value (Operand.func 149), args := #[Operand.tmp 75, Operand.tmp 76], argTypes := #[3, 3] }, type := 3, pos := "sets.go:100", after := #[{ on := 10, ground := Ground.data }, { on := 11, ground := Ground.data }, { on := 5, ground := Ground.chain }], guard := none }) rfl (fun K hK => ?_) AllReadyH.nil
    go_simp
    refine (modulo_any _ _ _ (by omega) (by omega)).mono ?_
    rintro e w' ⟨rfl, rfl⟩
    go_wp2_with fail
    refine hK.out _ _ ?_ (fun hHeld12 => ?_)
    · first | exact ⟨x0, x1, x2, x3, y0, y1, y2⟩ | exact hHeld | (simp [go_sem, *]; done) | go_keep
    clear hK K hHeld
    have hHeld := hHeld12
    clear hHeld12
    try simp only [Act.put, List.setIfInBounds_toArray, List.set_cons_zero, List.set_cons_succ]
    refine wpAnyH_take (i := 13) (oi := { dst := some 78, op := Op.binOp BinOp.sub 3 (Operand.tmp 72) (Operand.tmp 77) 3, type := 3, pos := "sets.go:98", after := #[{ on := 7, ground := Ground.data }, { on := 12, ground := Ground.data }], guard := none }) (v := ?_) rfl (by kernel_rfl) (by kernel_rfl) (by kernel_rfl) (fun _ _ _ h => h) (Or.inl ⟨by rfl, ?_⟩) (by assumption) ?_
    rotate_left
    · (intro w hSw; (try dsimp only at hSw); go_simp; first | done | with_reducible rfl)
    try simp only [Act.put, List.setIfInBounds_toArray, List.set_cons_zero, List.set_cons_succ]
    refine wpAnyH_take (i := 17) (oi := { dst := some 82, op := Op.build 95 #[(0, Operand.tmp 71), (1, Operand.tmp 78), (2, Operand.tmp 79), (3, Operand.tmp 81)], type := 95, pos := "sets.go:98", after := #[{ on := 6, ground := Ground.data }, { on := 13, ground := Ground.data }, { on := 14, ground := Ground.data }, { on := 16, ground := Ground.data }], guard := none }) (v := ?_) rfl (by kernel_rfl) (by kernel_rfl) (by kernel_rfl) (fun _ _ _ h => h) (Or.inl ⟨by rfl, ?_⟩) (by assumption) ?_
    rotate_left
    · (intro w hSw; (try dsimp only at hSw); go_simp; first | done | with_reducible rfl)
    try simp only [Act.put, List.setIfInBounds_toArray, List.set_cons_zero, List.set_cons_succ]
    refine wpAnyH_ready (rs := [18]) (by kernel_rfl) (by simp) ?_
    refine AllReadyH.cons (o := { dst := none, op := Op.store 95 (Operand.tmp 4) (Operand.tmp 82), type := 0, pos := "sets.go:98", after := #[{ on := 17, ground := Ground.data }, { on := 12, ground := Ground.chain }, { on := 0, ground := Ground.phase }, { on := 1, ground := Ground.phase }, { on := 2, ground := Ground.phase }, { on := 3, ground := Ground.phase }, { on := 4, ground := Ground.phase }, { on := 5, ground := Ground.phase }, { on := 6, ground := Ground.phase }, { on := 7, ground := Ground.phase }, { on := 8, ground := Ground.phase }, { on := 9, ground := Ground.phase }, { on := 10, ground := Ground.phase }, { on := 11, ground := Ground.phase }, { on := 12, ground := Ground.phase }, { on := 13, ground := Ground.phase }, { on := 14, ground := Ground.phase }, { on := 15, ground := Ground.phase }, { on := 16, ground := Ground.phase }, { on := 17, ground := Ground.phase }], guard := none }) rfl (fun K hK => ?_) AllReadyH.nil
    go_simp
    refine hK.out _ _ ?_ (fun hHeld18 => ?_)
    · first | exact ⟨x0, x1, x2, x3, y0, y1, y2⟩ | exact hHeld | (simp [go_sem, *]; done) | go_keep
    clear hK K hHeld
    have hHeld := hHeld18
    clear hHeld18
    try simp only [Act.put, List.setIfInBounds_toArray, List.set_cons_zero, List.set_cons_succ]
    refine wpAnyH_done (by kernel_rfl) ?_ _
    clear k6 k7 k8 k9 hHeld
    go_wp2
    have TD : (s2 / d) ∣ (t - (l2 - l1) / d * x) := by
      have e : (l2 - l1) / d = k := Int.ediv_eq_of_eq_mul_right (by omega) HK.out
      rw [e, ← TT.out]
      exact ⟨-(k * x / (s2 / d)), by have := Int.mul_ediv_add_emod (k * x) (s2 / d); rw [Int.mul_neg]; omega⟩
    have CM : ∀ n, Mem (A + (M - A) % S) (Z - (Z - M) % S) S n ↔ Mem l1 h1 s1 n ∧ Mem l2 h2 s2 n := by
      intro n
      have c := common_mem (l1 := l1) (h1 := h1) (l2 := l2) (h2 := h2) (t := t) (L := A + (M - A) % S) (H := Z - (Z - M) % S) (n := n) G.out a5 c5 ⟨k, HK.out⟩ TD (by rw [HM.out, HS.out, HA.out]) (by rw [HM.out, HS.out, HZ.out])
      rwa [HS.out] at c
    refine bodyPost_ret (v := .agg #[.int .i64 (A + (M - A) % S), .int .i64 (Z - (Z - M) % S), .int .i64 S, .bool dn]) (by simp [results, Try.results118, go_sem, *]) rfl ⟨_, _, S, dn, ⟨⟨Sb.1, Sb.2, by omega, by omega, by omega, by omega, fun _ => ends_dvd rfl rfl, CM⟩, fun _ => rfl⟩, rfl, ?_⟩
    repeat (first | exact W1.out | refine Below.alloc ?_ (by omega) _ | refine Below.setCell ?_ (by simp; try omega) _ | refine Below.drew ?_ | refine below_drewN ?_ _)
  · have hz : ((l2 - l1).tmod d != 0) = true := by
      simp only [bne_iff_ne, ne_eq]
      exact fun c => hd (Int.dvd_of_tmod_eq_zero c)
    have dz : ¬ d = 0 := by omega
    have HD := Lib.hid hd
    have R := Lib.hid (show (∀ o, (w1.alloc o).cell? ⟨w.heap.size + 1 + 1, 0, none⟩ = some (.int .i64 0)) ∧ (∀ o, (w1.alloc o).cell? ⟨w.heap.size + 1 + 1, 1, none⟩ = some (.int .i64 0)) ∧ (∀ o, (w1.alloc o).cell? ⟨w.heap.size + 1 + 1, 2, none⟩ = some (.int .i64 0)) ∧ (∀ o, (w1.alloc o).cell? ⟨w.heap.size + 1 + 1, 3, none⟩ = some (.bool false)) ∧
      (∀ o, (w1.alloc o).frozen? ⟨w.heap.size + 1 + 1, 0, none⟩ = false) ∧ (∀ o, (w1.alloc o).frozen? ⟨w.heap.size + 1 + 1, 1, none⟩ = false) ∧ (∀ o, (w1.alloc o).frozen? ⟨w.heap.size + 1 + 1, 2, none⟩ = false) ∧ (∀ o, (w1.alloc o).frozen? ⟨w.heap.size + 1 + 1, 3, none⟩ = false) from
      ⟨fun o => (alloc_cell w1 o (by simp; omega)).trans r0, fun o => (alloc_cell w1 o (by simp; omega)).trans r1, fun o => (alloc_cell w1 o (by simp; omega)).trans r2, fun o => (alloc_cell w1 o (by simp; omega)).trans r3,
       fun o => (alloc_frozen w1 o (by simp; omega)).trans f0, fun o => (alloc_frozen w1 o (by simp; omega)).trans f1, fun o => (alloc_frozen w1 o (by simp; omega)).trans f2, fun o => (alloc_frozen w1 o (by simp; omega)).trans f3⟩)
    clear hd
    go_wp2_with fail
    refine (nothing_any _).mono ?_
    rintro e w' ⟨rfl, rfl⟩
    obtain ⟨r0, r1, r2, r3, f0, f1, f2, f3⟩ := R.out
    go_wp2
    refine bodyPost_ret (v := .agg #[.int .i64 1, .int .i64 0, .int .i64 1, .bool false]) (by simp [results, Try.results118, go_sem, *]) rfl ⟨1, 0, 1, false, ⟨⟨by omega, by omega, by omega, by omega, by omega, by omega, by omega, fun n => ⟨fun hm => ?_, fun hm => ?_⟩⟩, fun c => by omega⟩, rfl, ?_⟩
    · have := hm.1; have := hm.2.1; omega
    · exact absurd (no_meet G.out HD.out hm.1 hm.2) id
    · repeat (first | exact W1.out | refine Below.alloc ?_ (by simp [World.setCell]; omega) _ | refine Below.setCell ?_ (by simp; try omega) _)

theorem common_any (l1 h1 s1 l2 h2 s2 : Int) (dn dn2 : Bool) (w : World) (a1 : -1000000 ≤ l1) (a2 : l1 ≤ 1000000) (a3 : -1000000 ≤ h1) (a4 : h1 ≤ 1000000) (a5 : 1 ≤ s1) (a6 : s1 ≤ 2000000) (c1 : -1000000 ≤ l2) (c2 : l2 ≤ 1000000) (c3 : -1000000 ≤ h2) (c4 : h2 ≤ 1000000) (c5 : 1 ≤ s2) (c6 : s2 ≤ 2000000) :
    Calls Try.prog 118 #[.agg #[.int .i64 l1, .int .i64 h1, .int .i64 s1, .bool dn], .agg #[.int .i64 l2, .int .i64 h2, .int .i64 s2, .bool dn2]] w (CommonRet l1 h1 s1 l2 h2 s2 w) :=
  (common_dir l1 h1 s1 l2 h2 s2 dn dn2 w a1 a2 a3 a4 a5 a6 c1 c2 c3 c4 c5 c6).mono fun _ _ ⟨L, H, S, d, hc, he, hb⟩ => ⟨L, H, S, d, hc.1, he, hb⟩
end Go.Proofs.Ytdifilndpilboaa
