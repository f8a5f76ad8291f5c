/-
  The contracts of span.checkBoth, Intersect and Within at right ranges: what both have, and whether one lies in the other.
-/
import Derived.Test.YtdifilndpilboaaAlgC
import Derived.Test.YtdifilndpilboaaAlgN
import Derived.Test.YtdifilndpilboaaSpanG
import Derived.WalkKit
import Derived.WalkSpells
import Derived.WalkLawsBesides
import Derived.BigQuiet
import Derived.Deep.QuietTactic
import Derived.Deep.RegionHeld3
import Derived.Deep.DrawnRows
import Derived.Lib.Hide
namespace Go.Proofs.Ytdifilndpilboaa
open Go.RowKit

/-- the two boxes of a call with two ranges, behind a call -/
theorem pair6 {w w1 : World} {t : TypeId} {a b c a' b' c' : Value} (hb : Below ((w.alloc (.cells #[a, b, c] t)).alloc (.cells #[a', b', c'] t)).heap.size ((w.alloc (.cells #[a, b, c] t)).alloc (.cells #[a', b', c'] t)) w1) :
    Hid (Below w.heap.size w w1) ∧ w.heap.size + 1 < w1.heap.size ∧ (w1.cell? ⟨w.heap.size, 0, none⟩ = some a ∧ w1.cell? ⟨w.heap.size, 1, none⟩ = some b ∧ w1.cell? ⟨w.heap.size, 2, none⟩ = some c) ∧
      (w1.cell? ⟨w.heap.size + 1, 0, none⟩ = some a' ∧ w1.cell? ⟨w.heap.size + 1, 1, none⟩ = some b' ∧ w1.cell? ⟨w.heap.size + 1, 2, none⟩ = some c') := by
  obtain ⟨W, z, x, y, _⟩ := res2 hb
  exact ⟨W, z, x, y⟩

set_option maxHeartbeats 800000 in
theorem checkBoth_ok (l1 h1 s1 l2 h2 s2 : Int) (w : World) (hA : Hid (chk l1 h1 s1 = 0)) (hB : Hid (chk l2 h2 s2 = 0)) :
    Calls Try.prog 117 #[.agg #[.int .i64 l1, .int .i64 h1, .int .i64 s1], .agg #[.int .i64 l2, .int .i64 h2, .int .i64 s2]] w fun e w' => e = .returned (.int .i64 0) ∧ Below w.heap.size w w' := by
  have bA := chk_bounds hA.out
  have bB := chk_bounds hB.out
  go_enter Try.func117, Try.ntmps117
  go_wp2_with fail
  refine (check_ok _ _ _ _ ⟨by omega, by omega⟩ ⟨by omega, by omega⟩ ⟨by omega, by omega⟩ hA).mono ?_
  rintro e w1 ⟨rfl, hb1⟩
  obtain ⟨W1, z1, ⟨x0, x1, x2⟩, ⟨y0, y1, y2⟩⟩ := pair6 hb1
  clear hb1 x0 x1 x2
  go_wp2_with fail
  refine (check_ok _ _ _ _ ⟨by omega, by omega⟩ ⟨by omega, by omega⟩ ⟨by omega, by omega⟩ hB).mono ?_
  rintro e w2 ⟨rfl, hb2⟩
  have W2 := hidTrans W1 hb2 (by omega)
  clear hb2
  go_wp2
  go_ret
  exact ⟨rfl, W2.out⟩

/-- what Intersect returns -/
def InterRet (l1 h1 s1 l2 h2 s2 : Int) (w : World) : Ending → World → Prop := fun e w' => ∃ l h s : Int, (chk l h s = 0 ∧ ∀ n, RMem l h s n ↔ RMem l1 h1 s1 n ∧ RMem l2 h2 s2 n) ∧ e = .returned (.tuple #[.agg #[.int .i64 l, .int .i64 h, .int .i64 s], .int .i64 0]) ∧ Below w.heap.size w w'

/-- what Intersect returns, with the direction -/
def InterDir (l1 h1 s1 l2 h2 s2 : Int) (w : World) : Ending → World → Prop := fun e w' => ∃ l h s : Int, (chk l h s = 0 ∧ (∀ n, RMem l h s n ↔ RMem l1 h1 s1 n ∧ RMem l2 h2 s2 n) ∧ (l < h → (s < 0 ↔ s1 < 0))) ∧ e = .returned (.tuple #[.agg #[.int .i64 l, .int .i64 h, .int .i64 s], .int .i64 0]) ∧ Below w.heap.size w w'

theorem nS_dir {L H S s1 : Int} {dn : Bool} (hS : 1 ≤ S) (hd : L ≤ H → dn = decide (s1 < 0)) : nL L H < nH L H → (nS L H S dn < 0 ↔ s1 < 0) := by
  unfold nL nH nS
  by_cases c : H < L
  · rw [if_pos c, if_pos c]; omega
  · rw [if_neg c, if_neg c, if_neg c]
    intro lt
    rw [if_neg (by omega), hd (by omega)]
    by_cases d : s1 < 0
    · rw [if_pos (by simpa using d)]; omega
    · rw [if_neg (by simpa using d)]; omega

/-- the normal range of the common numbers -/
theorem inter_norm {l1 h1 s1 l2 h2 s2 L H S : Int} {dn : Bool} (hA : chk l1 h1 s1 = 0) (_hB : chk l2 h2 s2 = 0) (c : Common l1 h1 (magA s1) l2 h2 (magA s2) L H S) :
    chk (nL L H) (nH L H) (nS L H S dn) = 0 ∧ ∀ n, RMem (nL L H) (nH L H) (nS L H S dn) n ↔ RMem l1 h1 s1 n ∧ RMem l2 h2 s2 n := by
  obtain ⟨c1, c2, c3, c4, c5, c6, c7, c8⟩ := c
  by_cases ov : H < L
  · have e1 : nL L H = 1 := if_pos ov
    have e2 : nH L H = 0 := if_pos ov
    have e3 : nS L H S dn = 1 := if_pos ov
    rw [e1, e2, e3]
    refine ⟨by decide, fun n => ⟨fun hm => absurd hm (rmem_none (by omega)), fun hm => ?_⟩⟩
    have := (c8 n).2 hm
    have := this.1; have := ((c8 n).2 hm).2.1
    omega
  · have hd := c7 (by omega)
    have mL := (c8 L).1 ⟨by omega, by omega, by rw [Int.sub_self]; exact Int.dvd_zero _⟩
    have mH := (c8 H).1 ⟨by omega, by omega, hd⟩
    have bA := chk_bounds hA
    have bl := mL.1.1
    have bh := mH.1.2.1
    have hc := chk_nrm L H S dn (by omega) c1 (Int.emod_eq_zero_of_dvd hd)
    rw [if_neg (by omega)] at hc
    refine ⟨hc, fun n => ?_⟩
    have e1 : nL L H = L := if_neg ov
    have e2 : nH L H = H := if_neg ov
    unfold RMem
    rw [← c8 n, e1, e2]
    by_cases eq : L = H
    · have e3 : nS L H S dn = 1 := by unfold nS; rw [if_neg ov, if_pos eq]
      rw [e3]
      constructor
      · intro hm
        have := hm.1; have := hm.2.1
        exact ⟨by omega, by omega, by rw [show n - L = 0 by omega]; exact Int.dvd_zero _⟩
      · intro hm
        exact ⟨hm.1, hm.2.1, Int.one_dvd _⟩
    · have e3 : magA (nS L H S dn) = S := by
        unfold nS; rw [if_neg ov, if_neg eq]
        cases dn
        · rw [if_neg (by simp)]; exact magA_pos (by omega)
        · rw [if_pos rfl, magA_neg (by omega), Int.neg_neg]
      rw [e3]

/-- the two boxes and the result's block, behind a call -/
theorem res33 {w w1 : World} {t : TypeId} {a b c a' b' c' p q r : Value} (hb : Below (((w.alloc (.cells #[a, b, c] t)).alloc (.cells #[a', b', c'] t)).alloc (.cells #[p, q, r] t)).heap.size (((w.alloc (.cells #[a, b, c] t)).alloc (.cells #[a', b', c'] t)).alloc (.cells #[p, q, r] t)) w1) :
    Hid (Below w.heap.size w w1) ∧ w.heap.size + 1 + 1 < w1.heap.size ∧ (w1.cell? ⟨w.heap.size, 0, none⟩ = some a ∧ w1.cell? ⟨w.heap.size, 1, none⟩ = some b ∧ w1.cell? ⟨w.heap.size, 2, none⟩ = some c) ∧
      (w1.cell? ⟨w.heap.size + 1, 0, none⟩ = some a' ∧ w1.cell? ⟨w.heap.size + 1, 1, none⟩ = some b' ∧ w1.cell? ⟨w.heap.size + 1, 2, none⟩ = some c') ∧
      (w1.cell? ⟨w.heap.size + 1 + 1, 0, none⟩ = some p ∧ w1.cell? ⟨w.heap.size + 1 + 1, 1, none⟩ = some q ∧ w1.cell? ⟨w.heap.size + 1 + 1, 2, none⟩ = some r) ∧
      (w1.frozen? ⟨w.heap.size + 1 + 1, 0, none⟩ = false ∧ w1.frozen? ⟨w.heap.size + 1 + 1, 1, none⟩ = false ∧ w1.frozen? ⟨w.heap.size + 1 + 1, 2, none⟩ = false) := by
  have hs : w.heap.size + 1 + 1 < (((w.alloc (.cells #[a, b, c] t)).alloc (.cells #[a', b', c'] t)).alloc (.cells #[p, q, r] t)).heap.size := by simp
  have hs0 : w.heap.size < (((w.alloc (.cells #[a, b, c] t)).alloc (.cells #[a', b', c'] t)).alloc (.cells #[p, q, r] t)).heap.size := by simp <;> omega
  have hs1 : w.heap.size + 1 < (((w.alloc (.cells #[a, b, c] t)).alloc (.cells #[a', b', c'] t)).alloc (.cells #[p, q, r] t)).heap.size := by simp <;> omega
  refine ⟨((((Below.refl _ _).alloc (Nat.le_refl _) _).alloc (by simp) _).alloc (by simp; omega) _).trans (hb.mono (by omega)), Nat.lt_of_lt_of_le hs hb.size, ⟨?_, ?_, ?_⟩, ⟨?_, ?_, ?_⟩, ⟨?_, ?_, ?_⟩, ?_, ?_, ?_⟩
  · rw [hb.cell (p := ⟨w.heap.size, 0, none⟩) hs0]; simp [go_sem]
  · rw [hb.cell (p := ⟨w.heap.size, 1, none⟩) hs0]; simp [go_sem]
  · rw [hb.cell (p := ⟨w.heap.size, 2, none⟩) hs0]; simp [go_sem]
  · rw [hb.cell (p := ⟨w.heap.size + 1, 0, none⟩) hs1]; simp [go_sem]
  · rw [hb.cell (p := ⟨w.heap.size + 1, 1, none⟩) hs1]; simp [go_sem]
  · rw [hb.cell (p := ⟨w.heap.size + 1, 2, none⟩) hs1]; simp [go_sem]
  · rw [hb.cell (p := ⟨w.heap.size + 1 + 1, 0, none⟩) hs]; simp [go_sem]
  · rw [hb.cell (p := ⟨w.heap.size + 1 + 1, 1, none⟩) hs]; simp [go_sem]
  · rw [hb.cell (p := ⟨w.heap.size + 1 + 1, 2, none⟩) hs]; simp [go_sem]
  · rw [hb.frozen (p := ⟨w.heap.size + 1 + 1, 0, none⟩) hs]; simp [go_sem]
  · rw [hb.frozen (p := ⟨w.heap.size + 1 + 1, 1, none⟩) hs]; simp [go_sem]
  · rw [hb.frozen (p := ⟨w.heap.size + 1 + 1, 2, none⟩) hs]; simp [go_sem]

set_option maxHeartbeats 3200000 in
theorem Intersect_dir (l1 h1 s1 l2 h2 s2 : Int) (w : World) (hA : Hid (chk l1 h1 s1 = 0)) (hB : Hid (chk l2 h2 s2 = 0)) :
    Calls Try.prog 40 #[.agg #[.int .i64 l1, .int .i64 h1, .int .i64 s1], .agg #[.int .i64 l2, .int .i64 h2, .int .i64 s2]] w (InterDir l1 h1 s1 l2 h2 s2 w) := by
  have bA := chk_bounds hA.out
  have bB := chk_bounds hB.out
  have hne : ¬ w.heap.size = w.heap.size + 1 + 1 := by omega
  have hne' : ¬ w.heap.size + 1 + 1 = w.heap.size := by omega
  go_enter Try.func40, Try.ntmps40
  go_wp2_with fail
  refine (checkBoth_ok _ _ _ _ _ _ _ hA hB).mono ?_
  rintro e w1 ⟨rfl, hb1⟩
  obtain ⟨W1, z1, ⟨x0, x1, x2⟩, ⟨y0, y1, y2⟩, r, f⟩ := res33 hb1
  have G1 := Lib.hid (And.intro r f)
  clear hb1 r f
  go_wp2_with fail
  refine wp_region_held_drew (S := (fun w' => w'.cell? ⟨w.heap.size, 0, none⟩ = some (.int .i64 l1) ∧ w'.cell? ⟨w.heap.size, 1, none⟩ = some (.int .i64 h1) ∧ w'.cell? ⟨w.heap.size, 2, none⟩ = some (.int .i64 s1) ∧ w'.cell? ⟨w.heap.size + 1, 0, none⟩ = some (.int .i64 l2) ∧ w'.cell? ⟨w.heap.size + 1, 1, none⟩ = some (.int .i64 h2) ∧ w'.cell? ⟨w.heap.size + 1, 2, none⟩ = some (.int .i64 s2))) (by kernel_rfl) ?_ (fun hHeld => ?_)
  · first | exact ⟨x0, x1, x2, y0, y1, y2⟩ | exact hHeld | (simp [go_sem, *]; done) | go_keep
  refine wpAnyH_take (i := 0) (oi := { dst := some 14, op := Op.load 23 (Operand.tmp 2), type := 23, pos := "sets.go:13", after := #[], guard := none }) (v := ?_) rfl (by kernel_rfl) (by kernel_rfl) (by kernel_rfl) (fun _ _ _ h => h) (Or.inl ⟨by rfl, ?_⟩) (by assumption) ?_
  rotate_left
  · (intro w hSw; (try dsimp only at hSw); go_simp; first | done | with_reducible rfl)
  try simp only [Act.put, List.setIfInBounds_toArray, List.set_cons_zero, List.set_cons_succ]
  refine wpAnyH_take (i := 2) (oi := { dst := some 16, op := Op.load 23 (Operand.tmp 3), type := 23, pos := "sets.go:13", after := #[], guard := none }) (v := ?_) rfl (by kernel_rfl) (by kernel_rfl) (by kernel_rfl) (fun _ _ _ h => h) (Or.inl ⟨by rfl, ?_⟩) (by assumption) ?_
  rotate_left
  · (intro w hSw; (try dsimp only at hSw); go_simp; first | done | with_reducible rfl)
  try simp only [Act.put, List.setIfInBounds_toArray, List.set_cons_zero, List.set_cons_succ]
  refine wpAnyH_ready (rs := [1]) (by kernel_rfl) (by simp) ?_
  refine AllReadyH.cons (o := { dst := some 15, op := Op.call { callee := Callee.value (Operand.func 100), args := #[Operand.tmp 14], argTypes := #[23] }, type := 95, pos := "sets.go:13", after := #[{ on := 0, ground := Ground.data }], guard := none }) rfl (fun K hK => ?_) AllReadyH.nil
  go_simp
  refine (open_any _ _ _ _ (by omega) (by omega)).mono ?_
  rintro e w2 ⟨rfl, hb2⟩
  have z2' : w1.heap.size ≤ w2.heap.size := hb2.size
  have G2 := Lib.hid (keepF (show Below w1.heap.size w1 w2 from ⟨hb2.os, hb2.tape, hb2.output, hb2.size, hb2.block⟩) (by omega) G1.out.1 G1.out.2)
  go_wp2_with fail
  refine hK.out _ _ ?_ (fun hHeld1 => ?_)
  · (obtain ⟨q0, q1, q2, q3, q4, q5⟩ := hHeld; exact ⟨(hb2.cell (p := ⟨w.heap.size, 0, none⟩) (by simp; omega)).trans q0, (hb2.cell (p := ⟨w.heap.size, 1, none⟩) (by simp; omega)).trans q1, (hb2.cell (p := ⟨w.heap.size, 2, none⟩) (by simp; omega)).trans q2, (hb2.cell (p := ⟨w.heap.size + 1, 0, none⟩) (by simp; omega)).trans q3, (hb2.cell (p := ⟨w.heap.size + 1, 1, none⟩) (by simp; omega)).trans q4, (hb2.cell (p := ⟨w.heap.size + 1, 2, none⟩) (by simp; omega)).trans q5⟩)
  clear hK K hHeld
  have hHeld := hHeld1
  clear hHeld1
  try simp only [Act.put, List.setIfInBounds_toArray, List.set_cons_zero, List.set_cons_succ]
  refine wpAnyH_ready (rs := [3]) (by kernel_rfl) (by simp) ?_
  refine AllReadyH.cons (o := { dst := some 17, op := Op.call { callee := Callee.value (Operand.func 100), args := #[Operand.tmp 16], argTypes := #[23] }, type := 95, pos := "sets.go:13", after := #[{ on := 2, ground := Ground.data }, { on := 1, ground := Ground.chain }], guard := none }) rfl (fun K hK => ?_) AllReadyH.nil
  go_simp
  refine (open_any _ _ _ _ (by omega) (by omega)).mono ?_
  rintro e w3 ⟨rfl, hb3⟩
  have z3' : w2.heap.size ≤ w3.heap.size := hb3.size
  have G3 := Lib.hid (keepF (show Below w2.heap.size w2 w3 from ⟨hb3.os, hb3.tape, hb3.output, hb3.size, hb3.block⟩) (by omega) G2.out.1 G2.out.2)
  go_wp2_with fail
  refine hK.out _ _ ?_ (fun hHeld3 => ?_)
  · (obtain ⟨q0, q1, q2, q3, q4, q5⟩ := hHeld; exact ⟨(hb3.cell (p := ⟨w.heap.size, 0, none⟩) (by simp; omega)).trans q0, (hb3.cell (p := ⟨w.heap.size, 1, none⟩) (by simp; omega)).trans q1, (hb3.cell (p := ⟨w.heap.size, 2, none⟩) (by simp; omega)).trans q2, (hb3.cell (p := ⟨w.heap.size + 1, 0, none⟩) (by simp; omega)).trans q3, (hb3.cell (p := ⟨w.heap.size + 1, 1, none⟩) (by simp; omega)).trans q4, (hb3.cell (p := ⟨w.heap.size + 1, 2, none⟩) (by simp; omega)).trans q5⟩)
  clear hK K hHeld
  have hHeld := hHeld3
  clear hHeld3
  try simp only [Act.put, List.setIfInBounds_toArray, List.set_cons_zero, List.set_cons_succ]
  refine wpAnyH_ready (rs := [4]) (by kernel_rfl) (by simp) ?_
  refine AllReadyH.cons (o := { dst := some 18, op := Op.call { callee := Callee.value (Operand.func 118), args := #[Operand.tmp 15, Operand.tmp 17], argTypes := #[95, 95] }, type := 95, pos := "sets.go:13", after := #[{ on := 1, ground := Ground.data }, { on := 3, ground := Ground.data }, { on := 3, ground := Ground.chain }], guard := none }) rfl (fun K hK => ?_) AllReadyH.nil
  go_simp
  refine (common_dir _ _ _ _ _ _ _ _ _ bA.1 bA.2.1 bA.2.2.1 bA.2.2.2.1 bA.2.2.2.2.2.2.1 bA.2.2.2.2.2.2.2 bB.1 bB.2.1 bB.2.2.1 bB.2.2.2.1 bB.2.2.2.2.2.2.1 bB.2.2.2.2.2.2.2).mono ?_
  rintro e w4 ⟨L, H, S, dn, hC, rfl, hb4⟩
  have HC := Lib.hid hC
  have cS1 := hC.1.1
  have cS2 := hC.1.2.1
  clear hC
  have z4' : w3.heap.size ≤ w4.heap.size := hb4.size
  have G4 := Lib.hid (keepF (show Below w3.heap.size w3 w4 from ⟨hb4.os, hb4.tape, hb4.output, hb4.size, hb4.block⟩) (by omega) G3.out.1 G3.out.2)
  go_wp2_with fail
  refine hK.out _ _ ?_ (fun hHeld4 => ?_)
  · (obtain ⟨q0, q1, q2, q3, q4, q5⟩ := hHeld; exact ⟨(hb4.cell (p := ⟨w.heap.size, 0, none⟩) (by simp; omega)).trans q0, (hb4.cell (p := ⟨w.heap.size, 1, none⟩) (by simp; omega)).trans q1, (hb4.cell (p := ⟨w.heap.size, 2, none⟩) (by simp; omega)).trans q2, (hb4.cell (p := ⟨w.heap.size + 1, 0, none⟩) (by simp; omega)).trans q3, (hb4.cell (p := ⟨w.heap.size + 1, 1, none⟩) (by simp; omega)).trans q4, (hb4.cell (p := ⟨w.heap.size + 1, 2, none⟩) (by simp; omega)).trans q5⟩)
  clear hK K hHeld
  have hHeld := hHeld4
  clear hHeld4
  try simp only [Act.put, List.setIfInBounds_toArray, List.set_cons_zero, List.set_cons_succ]
  refine wpAnyH_ready (rs := [5]) (by kernel_rfl) (by simp) ?_
  refine AllReadyH.cons (o := { dst := some 19, op := Op.call { callee := Callee.value (Operand.func 96), args := #[Operand.tmp 18], argTypes := #[95] }, type := 23, pos := "sets.go:13", after := #[{ on := 4, ground := Ground.data }, { on := 4, ground := Ground.chain }], guard := none }) rfl (fun K hK => ?_) AllReadyH.nil
  go_simp
  refine (normal_any _ _ _ _ _ (by omega) (by omega)).mono ?_
  rintro e w5 ⟨rfl, hb5⟩
  have z5' : w4.heap.size ≤ w5.heap.size := hb5.size
  have G5 := Lib.hid (keepF (show Below w4.heap.size w4 w5 from ⟨hb5.os, hb5.tape, hb5.output, hb5.size, hb5.block⟩) (by omega) G4.out.1 G4.out.2)
  obtain ⟨⟨g0, g1, g2⟩, f0, f1, f2⟩ := G5.out
  go_wp2_with fail
  refine hK.out _ _ ?_ (fun hHeld5 => ?_)
  · (obtain ⟨q0, q1, q2, q3, q4, q5⟩ := hHeld; exact ⟨(hb5.cell (p := ⟨w.heap.size, 0, none⟩) (by simp; omega)).trans q0, (hb5.cell (p := ⟨w.heap.size, 1, none⟩) (by simp; omega)).trans q1, (hb5.cell (p := ⟨w.heap.size, 2, none⟩) (by simp; omega)).trans q2, (hb5.cell (p := ⟨w.heap.size + 1, 0, none⟩) (by simp; omega)).trans q3, (hb5.cell (p := ⟨w.heap.size + 1, 1, none⟩) (by simp; omega)).trans q4, (hb5.cell (p := ⟨w.heap.size + 1, 2, none⟩) (by simp; omega)).trans q5⟩)
  clear hK K hHeld
  have hHeld := hHeld5
  clear hHeld5
  try simp only [Act.put, List.setIfInBounds_toArray, List.set_cons_zero, List.set_cons_succ]
  refine wpAnyH_ready (rs := [6]) (by kernel_rfl) (by simp) ?_
  refine AllReadyH.cons (o := { dst := none, op := Op.store 23 (Operand.tmp 4) (Operand.tmp 19), type := 0, pos := "sets.go:13", after := #[{ on := 5, ground := Ground.data }, { on := 5, ground := Ground.chain }, { on := 0, ground := Ground.phase }, { on := 1, ground := Ground.phase }, { on := 2, ground := Ground.phase }, { on := 3, ground := Ground.phase }, { on := 4, ground := Ground.phase }, { on := 5, ground := Ground.phase }], guard := none }) rfl (fun K hK => ?_) AllReadyH.nil
  go_simp
  refine hK.out _ _ ?_ (fun hHeld6 => ?_)
  · first | exact ⟨x0, x1, x2, y0, y1, y2⟩ | exact hHeld | (simp [go_sem, *]; done) | go_keep
  clear hK K hHeld
  have hHeld := hHeld6
  clear hHeld6
  try simp only [Act.put, List.setIfInBounds_toArray, List.set_cons_zero, List.set_cons_succ]
  refine wpAnyH_take (i := 7) (oi := { dst := some 5, op := Op.assign (Operand.const (Value.int IntKind.i64 0)), type := 24, pos := "sets.go:13", after := #[{ on := 6, ground := Ground.chain }, { on := 0, ground := Ground.phase }, { on := 1, ground := Ground.phase }, { on := 2, ground := Ground.phase }, { on := 3, ground := Ground.phase }, { on := 4, ground := Ground.phase }, { on := 5, ground := Ground.phase }, { on := 6, ground := Ground.phase }], guard := none }) (v := ?_) rfl (by kernel_rfl) (by kernel_rfl) (by kernel_rfl) (fun _ _ _ h => h) (Or.inl ⟨by rfl, ?_⟩) (by assumption) ?_
  rotate_left
  · (intro w hSw; (try dsimp only at hSw); go_simp; first | done | with_reducible rfl)
  try simp only [Act.put, List.setIfInBounds_toArray, List.set_cons_zero, List.set_cons_succ]
  refine wpAnyH_done (by kernel_rfl) ?_ _
  have Wa := W1.out.drew.trans (hb2.mono (by simp; omega))
  have Wa := Wa.trans (hb3.mono (by omega))
  have Wa := Wa.trans (hb4.mono (by omega))
  have Wa := Wa.trans (hb5.mono (by omega))
  have W := Lib.hid Wa
  clear Wa hHeld hb2 hb3 hb4 hb5 W1
  go_wp2
  refine bodyPost_ret (v := .tuple #[.agg #[.int .i64 (nL L H), .int .i64 (nH L H), .int .i64 (nS L H S dn)], .int .i64 0]) (by simp [results, Try.results40, go_sem, *]) rfl ⟨_, _, _, ⟨(inter_norm hA.out hB.out HC.out.1).1, (inter_norm hA.out hB.out HC.out.1).2, nS_dir cS1 HC.out.2⟩, rfl, ?_⟩
  repeat (first | exact W.out | refine Below.setCell ?_ (by simp; try omega) _)

theorem Intersect_ok (l1 h1 s1 l2 h2 s2 : Int) (w : World) (hA : Hid (chk l1 h1 s1 = 0)) (hB : Hid (chk l2 h2 s2 = 0)) :
    Calls Try.prog 40 #[.agg #[.int .i64 l1, .int .i64 h1, .int .i64 s1], .agg #[.int .i64 l2, .int .i64 h2, .int .i64 s2]] w (InterRet l1 h1 s1 l2 h2 s2 w) :=
  (Intersect_dir l1 h1 s1 l2 h2 s2 w hA hB).mono fun _ _ ⟨l, h, s, hc, he, hb⟩ => ⟨l, h, s, ⟨hc.1, hc.2.1⟩, he, hb⟩

/-- what Within returns -/
def WithRet (l1 h1 s1 l2 h2 s2 : Int) (w : World) : Ending → World → Prop := fun e w' => ∃ b : Bool, (b = true ↔ ∀ n, RMem l1 h1 s1 n → RMem l2 h2 s2 n) ∧ e = .returned (.tuple #[.bool b, .int .i64 0]) ∧ Below w.heap.size w w'

set_option maxHeartbeats 3200000 in
theorem Within_ok (l1 h1 s1 l2 h2 s2 : Int) (w : World) (hA : Hid (chk l1 h1 s1 = 0)) (hB : Hid (chk l2 h2 s2 = 0)) :
    Calls Try.prog 46 #[.agg #[.int .i64 l1, .int .i64 h1, .int .i64 s1], .agg #[.int .i64 l2, .int .i64 h2, .int .i64 s2]] w (WithRet l1 h1 s1 l2 h2 s2 w) := by
  have bA := chk_bounds hA.out
  have bB := chk_bounds hB.out
  go_enter Try.func46, Try.ntmps46
  go_wp2_with fail
  refine (checkBoth_ok _ _ _ _ _ _ _ hA hB).mono ?_
  rintro e w1 ⟨rfl, hb1⟩
  obtain ⟨W1, z1, ⟨x0, x1, x2⟩, ⟨y0, y1, y2⟩⟩ := pair6 hb1
  clear hb1
  go_wp2_with fail
  refine wp_region_held_drew (S := (fun w' => w'.cell? ⟨w.heap.size, 0, none⟩ = some (.int .i64 l1) ∧ w'.cell? ⟨w.heap.size, 1, none⟩ = some (.int .i64 h1) ∧ w'.cell? ⟨w.heap.size, 2, none⟩ = some (.int .i64 s1) ∧ w'.cell? ⟨w.heap.size + 1, 0, none⟩ = some (.int .i64 l2) ∧ w'.cell? ⟨w.heap.size + 1, 1, none⟩ = some (.int .i64 h2) ∧ w'.cell? ⟨w.heap.size + 1, 2, none⟩ = some (.int .i64 s2))) (by kernel_rfl) ?_ (fun hHeld => ?_)
  · first | exact ⟨x0, x1, x2, y0, y1, y2⟩ | exact hHeld | (simp [go_sem, *]; done) | go_keep
  refine wpAnyH_take (i := 0) (oi := { dst := some 13, op := Op.load 23 (Operand.tmp 2), type := 23, pos := "sets.go:75", after := #[], guard := none }) (v := ?_) rfl (by kernel_rfl) (by kernel_rfl) (by kernel_rfl) (fun _ _ _ h => h) (Or.inl ⟨by rfl, ?_⟩) (by assumption) ?_
  rotate_left
  · (intro w hSw; (try dsimp only at hSw); go_simp; first | done | with_reducible rfl)
  try simp only [Act.put, List.setIfInBounds_toArray, List.set_cons_zero, List.set_cons_succ]
  refine wpAnyH_take (i := 2) (oi := { dst := some 15, op := Op.load 23 (Operand.tmp 3), type := 23, pos := "sets.go:75", after := #[], guard := none }) (v := ?_) rfl (by kernel_rfl) (by kernel_rfl) (by kernel_rfl) (fun _ _ _ h => h) (Or.inl ⟨by rfl, ?_⟩) (by assumption) ?_
  rotate_left
  · (intro w hSw; (try dsimp only at hSw); go_simp; first | done | with_reducible rfl)
  try simp only [Act.put, List.setIfInBounds_toArray, List.set_cons_zero, List.set_cons_succ]
  refine wpAnyH_take (i := 7) (oi := { dst := some 20, op := Op.load 23 (Operand.tmp 2), type := 23, pos := "sets.go:75", after := #[], guard := none }) (v := ?_) rfl (by kernel_rfl) (by kernel_rfl) (by kernel_rfl) (fun _ _ _ h => h) (Or.inl ⟨by rfl, ?_⟩) (by assumption) ?_
  rotate_left
  · (intro w hSw; (try dsimp only at hSw); go_simp; first | done | with_reducible rfl)
  try simp only [Act.put, List.setIfInBounds_toArray, List.set_cons_zero, List.set_cons_succ]
  refine wpAnyH_ready (rs := [1]) (by kernel_rfl) (by simp) ?_
  refine AllReadyH.cons (o := { dst := some 14, op := Op.call { callee := Callee.value (Operand.func 100), args := #[Operand.tmp 13], argTypes := #[23] }, type := 95, pos := "sets.go:75", after := #[{ on := 0, ground := Ground.data }], guard := none }) rfl (fun K hK => ?_) AllReadyH.nil
  go_simp
  refine (open_any _ _ _ _ (by omega) (by omega)).mono ?_
  rintro e w2 ⟨rfl, hb2⟩
  have z2' : w1.heap.size ≤ w2.heap.size := hb2.size
  go_wp2_with fail
  refine hK.out _ _ ?_ (fun hHeld1 => ?_)
  · (obtain ⟨q0, q1, q2, q3, q4, q5⟩ := hHeld; exact ⟨(hb2.cell (p := ⟨w.heap.size, 0, none⟩) (by simp; omega)).trans q0, (hb2.cell (p := ⟨w.heap.size, 1, none⟩) (by simp; omega)).trans q1, (hb2.cell (p := ⟨w.heap.size, 2, none⟩) (by simp; omega)).trans q2, (hb2.cell (p := ⟨w.heap.size + 1, 0, none⟩) (by simp; omega)).trans q3, (hb2.cell (p := ⟨w.heap.size + 1, 1, none⟩) (by simp; omega)).trans q4, (hb2.cell (p := ⟨w.heap.size + 1, 2, none⟩) (by simp; omega)).trans q5⟩)
  clear hK K hHeld
  have hHeld := hHeld1
  clear hHeld1
  try simp only [Act.put, List.setIfInBounds_toArray, List.set_cons_zero, List.set_cons_succ]
  refine wpAnyH_ready (rs := [3]) (by kernel_rfl) (by simp) ?_
  refine AllReadyH.cons (o := { dst := some 16, op := Op.call { callee := Callee.value (Operand.func 100), args := #[Operand.tmp 15], argTypes := #[23] }, type := 95, pos := "sets.go:75", after := #[{ on := 2, ground := Ground.data }, { on := 1, ground := Ground.chain }], guard := none }) rfl (fun K hK => ?_) AllReadyH.nil
  go_simp
  refine (open_any _ _ _ _ (by omega) (by omega)).mono ?_
  rintro e w3 ⟨rfl, hb3⟩
  have z3' : w2.heap.size ≤ w3.heap.size := hb3.size
  go_wp2_with fail
  refine hK.out _ _ ?_ (fun hHeld3 => ?_)
  · (obtain ⟨q0, q1, q2, q3, q4, q5⟩ := hHeld; exact ⟨(hb3.cell (p := ⟨w.heap.size, 0, none⟩) (by simp; omega)).trans q0, (hb3.cell (p := ⟨w.heap.size, 1, none⟩) (by simp; omega)).trans q1, (hb3.cell (p := ⟨w.heap.size, 2, none⟩) (by simp; omega)).trans q2, (hb3.cell (p := ⟨w.heap.size + 1, 0, none⟩) (by simp; omega)).trans q3, (hb3.cell (p := ⟨w.heap.size + 1, 1, none⟩) (by simp; omega)).trans q4, (hb3.cell (p := ⟨w.heap.size + 1, 2, none⟩) (by simp; omega)).trans q5⟩)
  clear hK K hHeld
  have hHeld := hHeld3
  clear hHeld3
  try simp only [Act.put, List.setIfInBounds_toArray, List.set_cons_zero, List.set_cons_succ]
  refine wpAnyH_ready (rs := [4]) (by kernel_rfl) (by simp) ?_
  refine AllReadyH.cons (o := { dst := some 17, op := Op.call { callee := Callee.value (Operand.func 118), args := #[Operand.tmp 14, Operand.tmp 16], argTypes := #[95, 95] }, type := 95, pos := "sets.go:75", after := #[{ on := 1, ground := Ground.data }, { on := 3, ground := Ground.data }, { on := 3, ground := Ground.chain }], guard := none }) rfl (fun K hK => ?_) AllReadyH.nil
  go_simp
  refine (common_any _ _ _ _ _ _ _ _ _ bA.1 bA.2.1 bA.2.2.1 bA.2.2.2.1 bA.2.2.2.2.2.2.1 bA.2.2.2.2.2.2.2 bB.1 bB.2.1 bB.2.2.1 bB.2.2.2.1 bB.2.2.2.2.2.2.1 bB.2.2.2.2.2.2.2).mono ?_
  rintro e w4 ⟨L, H, S, dn, hC, rfl, hb4⟩
  have HC := Lib.hid hC
  have cS1 := hC.1
  have cS2 := hC.2.1
  have cL : -5000000000000 ≤ L ∧ L ≤ 5000000000000 ∧ -5000000000000 ≤ H ∧ H ≤ 5000000000000 := ⟨hC.2.2.1, hC.2.2.2.1, hC.2.2.2.2.1, hC.2.2.2.2.2.1⟩
  clear hC
  have z4' : w3.heap.size ≤ w4.heap.size := hb4.size
  go_wp2_with fail
  refine hK.out _ _ ?_ (fun hHeld4 => ?_)
  · (obtain ⟨q0, q1, q2, q3, q4, q5⟩ := hHeld; exact ⟨(hb4.cell (p := ⟨w.heap.size, 0, none⟩) (by simp; omega)).trans q0, (hb4.cell (p := ⟨w.heap.size, 1, none⟩) (by simp; omega)).trans q1, (hb4.cell (p := ⟨w.heap.size, 2, none⟩) (by simp; omega)).trans q2, (hb4.cell (p := ⟨w.heap.size + 1, 0, none⟩) (by simp; omega)).trans q3, (hb4.cell (p := ⟨w.heap.size + 1, 1, none⟩) (by simp; omega)).trans q4, (hb4.cell (p := ⟨w.heap.size + 1, 2, none⟩) (by simp; omega)).trans q5⟩)
  clear hK K hHeld
  have hHeld := hHeld4
  clear hHeld4
  try simp only [Act.put, List.setIfInBounds_toArray, List.set_cons_zero, List.set_cons_succ]
  refine wpAnyH_ready (rs := [5]) (by kernel_rfl) (by simp) ?_
  refine AllReadyH.cons (o := { dst := some 18, op := Op.call { callee := Callee.value (Operand.func 96), args := #[Operand.tmp 17], argTypes := #[95] }, type := 23, pos := "sets.go:75", after := #[{ on := 4, ground := Ground.data }, { on := 4, ground := Ground.chain }], guard := none }) rfl (fun K hK => ?_) AllReadyH.nil
  go_simp
  refine (normal_any _ _ _ _ _ (by omega) (by omega)).mono ?_
  rintro e w5 ⟨rfl, hb5⟩
  have z5' : w4.heap.size ≤ w5.heap.size := hb5.size
  go_wp2_with fail
  refine hK.out _ _ ?_ (fun hHeld5 => ?_)
  · (obtain ⟨q0, q1, q2, q3, q4, q5⟩ := hHeld; exact ⟨(hb5.cell (p := ⟨w.heap.size, 0, none⟩) (by simp; omega)).trans q0, (hb5.cell (p := ⟨w.heap.size, 1, none⟩) (by simp; omega)).trans q1, (hb5.cell (p := ⟨w.heap.size, 2, none⟩) (by simp; omega)).trans q2, (hb5.cell (p := ⟨w.heap.size + 1, 0, none⟩) (by simp; omega)).trans q3, (hb5.cell (p := ⟨w.heap.size + 1, 1, none⟩) (by simp; omega)).trans q4, (hb5.cell (p := ⟨w.heap.size + 1, 2, none⟩) (by simp; omega)).trans q5⟩)
  clear hK K hHeld
  have hHeld := hHeld5
  clear hHeld5
  try simp only [Act.put, List.setIfInBounds_toArray, List.set_cons_zero, List.set_cons_succ]
  refine wpAnyH_ready (rs := [6]) (by kernel_rfl) (by simp) ?_
  refine AllReadyH.cons (o := { dst := some 19, op := Op.call { callee := Callee.value (Operand.func 23), args := #[Operand.tmp 18], argTypes := #[23] }, type := 3, pos := "sets.go:75", after := #[{ on := 5, ground := Ground.data }, { on := 5, ground := Ground.chain }], guard := none }) rfl (fun K hK => ?_) AllReadyH.nil
  go_simp
  refine (Size_any _ _ _ _ (nL_64 _ _ ⟨by omega, by omega⟩) (nH_64 _ _ ⟨by omega, by omega⟩) (nS_64 _ _ _ _ (by omega) (by omega))).mono ?_
  rintro e w6 ⟨rfl, hb6⟩
  have z6' : w5.heap.size ≤ w6.heap.size := hb6.size
  go_wp2_with fail
  refine hK.out _ _ ?_ (fun hHeld6 => ?_)
  · (obtain ⟨q0, q1, q2, q3, q4, q5⟩ := hHeld; exact ⟨(hb6.cell (p := ⟨w.heap.size, 0, none⟩) (by simp; omega)).trans q0, (hb6.cell (p := ⟨w.heap.size, 1, none⟩) (by simp; omega)).trans q1, (hb6.cell (p := ⟨w.heap.size, 2, none⟩) (by simp; omega)).trans q2, (hb6.cell (p := ⟨w.heap.size + 1, 0, none⟩) (by simp; omega)).trans q3, (hb6.cell (p := ⟨w.heap.size + 1, 1, none⟩) (by simp; omega)).trans q4, (hb6.cell (p := ⟨w.heap.size + 1, 2, none⟩) (by simp; omega)).trans q5⟩)
  clear hK K hHeld
  have hHeld := hHeld6
  clear hHeld6
  try simp only [Act.put, List.setIfInBounds_toArray, List.set_cons_zero, List.set_cons_succ]
  refine wpAnyH_ready (rs := [8]) (by kernel_rfl) (by simp) ?_
  refine AllReadyH.cons (o := { dst := some 21, op := Op.call { callee := Callee.value (Operand.func 23), args := #[Operand.tmp 20], argTypes := #[23] }, type := 3, pos := "sets.go:75", after := #[{ on := 7, ground := Ground.data }, { on := 6, ground := Ground.chain }], guard := none }) rfl (fun K hK => ?_) AllReadyH.nil
  go_simp
  refine (Size_any _ _ _ _ ⟨by omega, by omega⟩ ⟨by omega, by omega⟩ ⟨by omega, by omega⟩).mono ?_
  rintro e w7 ⟨rfl, hb7⟩
  have z7' : w6.heap.size ≤ w7.heap.size := hb7.size
  go_wp2_with fail
  refine hK.out _ _ ?_ (fun hHeld8 => ?_)
  · (obtain ⟨q0, q1, q2, q3, q4, q5⟩ := hHeld; exact ⟨(hb7.cell (p := ⟨w.heap.size, 0, none⟩) (by simp; omega)).trans q0, (hb7.cell (p := ⟨w.heap.size, 1, none⟩) (by simp; omega)).trans q1, (hb7.cell (p := ⟨w.heap.size, 2, none⟩) (by simp; omega)).trans q2, (hb7.cell (p := ⟨w.heap.size + 1, 0, none⟩) (by simp; omega)).trans q3, (hb7.cell (p := ⟨w.heap.size + 1, 1, none⟩) (by simp; omega)).trans q4, (hb7.cell (p := ⟨w.heap.size + 1, 2, none⟩) (by simp; omega)).trans q5⟩)
  clear hK K hHeld
  have hHeld := hHeld8
  clear hHeld8
  try simp only [Act.put, List.setIfInBounds_toArray, List.set_cons_zero, List.set_cons_succ]
  refine wpAnyH_take (i := 9) (oi := { dst := some 22, op := Op.binOp BinOp.eql 3 (Operand.tmp 19) (Operand.tmp 21) 3, type := 4, pos := "sets.go:75", after := #[{ on := 6, ground := Ground.data }, { on := 8, ground := Ground.data }], guard := none }) (v := ?_) rfl (by kernel_rfl) (by kernel_rfl) (by kernel_rfl) (fun _ _ _ h => h) (Or.inl ⟨by rfl, ?_⟩) (by assumption) ?_
  rotate_left
  · (intro w hSw; (try dsimp only at hSw); go_simp; first | done | with_reducible rfl)
  try simp only [Act.put, List.setIfInBounds_toArray, List.set_cons_zero, List.set_cons_succ]
  refine wpAnyH_take (i := 10) (oi := { dst := some 4, op := Op.assign (Operand.tmp 22), type := 4, pos := "sets.go:75", after := #[{ on := 9, ground := Ground.data }, { on := 8, ground := Ground.chain }, { on := 0, ground := Ground.phase }, { on := 1, ground := Ground.phase }, { on := 2, ground := Ground.phase }, { on := 3, ground := Ground.phase }, { on := 4, ground := Ground.phase }, { on := 5, ground := Ground.phase }, { on := 6, ground := Ground.phase }, { on := 7, ground := Ground.phase }, { on := 8, ground := Ground.phase }, { on := 9, ground := Ground.phase }], guard := none }) (v := ?_) rfl (by kernel_rfl) (by kernel_rfl) (by kernel_rfl) (fun _ _ _ h => h) (Or.inl ⟨by rfl, ?_⟩) (by assumption) ?_
  rotate_left
  · (intro w hSw; (try dsimp only at hSw); go_simp; first | done | with_reducible rfl)
  try simp only [Act.put, List.setIfInBounds_toArray, List.set_cons_zero, List.set_cons_succ]
  refine wpAnyH_take (i := 11) (oi := { dst := some 5, op := Op.assign (Operand.const (Value.int IntKind.i64 0)), type := 24, pos := "sets.go:75", after := #[{ on := 10, ground := Ground.chain }, { on := 0, ground := Ground.phase }, { on := 1, ground := Ground.phase }, { on := 2, ground := Ground.phase }, { on := 3, ground := Ground.phase }, { on := 4, ground := Ground.phase }, { on := 5, ground := Ground.phase }, { on := 6, ground := Ground.phase }, { on := 7, ground := Ground.phase }, { on := 8, ground := Ground.phase }, { on := 9, ground := Ground.phase }, { on := 10, ground := Ground.phase }], guard := none }) (v := ?_) rfl (by kernel_rfl) (by kernel_rfl) (by kernel_rfl) (fun _ _ _ h => h) (Or.inl ⟨by rfl, ?_⟩) (by assumption) ?_
  rotate_left
  · (intro w hSw; (try dsimp only at hSw); go_simp; first | done | with_reducible rfl)
  try simp only [Act.put, List.setIfInBounds_toArray, List.set_cons_zero, List.set_cons_succ]
  refine wpAnyH_done (by kernel_rfl) ?_ _
  have Wa := W1.out.drew.trans (hb2.mono (by simp; omega))
  have Wa := Wa.trans (hb3.mono (by omega))
  have Wa := Wa.trans (hb4.mono (by omega))
  have Wa := Wa.trans (hb5.mono (by omega))
  have Wa := Wa.trans (hb6.mono (by omega))
  have Wa := Wa.trans (hb7.mono (by omega))
  have W := Lib.hid Wa
  clear Wa hHeld hb2 hb3 hb4 hb5 hb6 hb7 W1
  go_wp2
  obtain ⟨i1, i2⟩ := inter_norm (dn := dn) hA.out hB.out HC.out
  refine bodyPost_ret (v := .tuple #[.bool (siz (nL L H) (nH L H) (nS L H S dn) == siz l1 h1 s1), .int .i64 0]) (by simp [results, Try.results46, go_sem, *]) rfl ⟨_, ?_, rfl, W.out⟩
  rw [beq_iff_eq, within_iff hA.out i1 fun n hm => ((i2 n).1 hm).1]
  exact ⟨fun h n hn => ((i2 n).1 (h n hn)).2, fun h n hn => (i2 n).2 ⟨hn, h n hn⟩⟩
end Go.Proofs.Ytdifilndpilboaa
