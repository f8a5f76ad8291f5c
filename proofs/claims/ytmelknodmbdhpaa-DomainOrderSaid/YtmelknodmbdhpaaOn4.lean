/-
  Part 4: AlgI, PairE, RefN, RefO, RefP, RefQ, AlgH, RefS, SubA, SubB, SubC.
-/
import Derived.Test.YtmelknodmbdhpaaOn2
import Derived.Test.YtmelknodmbdhpaaOn3
import Derived.BigQuiet
import Derived.Deep.AppendLies
import Derived.Deep.CutBlock
import Derived.Deep.DeepCutAuto
import Derived.Deep.DrawnRows
import Derived.Deep.LoopGhost
import Derived.Deep.QuietTactic
import Derived.Deep.RegionHeld3
import Derived.Deep.RegionLaw
import Derived.Deep.RegionWith
import Derived.Lib.Hide
import Derived.WalkKit
import Derived.WalkLawsBesides
import Derived.WalkSpells
namespace Go.Proofs.Ytmelknodmbdhpaa
open Go.RowKit
/-- the two boxes of a call with two ranges, behind a call -/
theorem pair6 {w w1 : World} {t : TypeId} {a b c a' b' c' : Value} (hb : Below ((w.alloc (.cells #[a, b, c] t)).alloc (.cells #[a', b', c'] t)).heap.size ((w.alloc (.cells #[a, b, c] t)).alloc (.cells #[a', b', c'] t)) w1) :
    Hid (Below w.heap.size w w1) ∧ w.heap.size + 1 < w1.heap.size ∧ (w1.cell? ⟨w.heap.size, 0, none⟩ = some a ∧ w1.cell? ⟨w.heap.size, 1, none⟩ = some b ∧ w1.cell? ⟨w.heap.size, 2, none⟩ = some c) ∧
      (w1.cell? ⟨w.heap.size + 1, 0, none⟩ = some a' ∧ w1.cell? ⟨w.heap.size + 1, 1, none⟩ = some b' ∧ w1.cell? ⟨w.heap.size + 1, 2, none⟩ = some c') := by
  obtain ⟨W, z, x, y, _⟩ := res2 hb
  exact ⟨W, z, x, y⟩
set_option maxHeartbeats 800000 in
theorem checkBoth_ok (l1 h1 s1 l2 h2 s2 : Int) (w : World) (hA : Hid (chk l1 h1 s1 = 0)) (hB : Hid (chk l2 h2 s2 = 0)) :
    Calls Try.prog 126 #[.agg #[.int .i64 l1, .int .i64 h1, .int .i64 s1], .agg #[.int .i64 l2, .int .i64 h2, .int .i64 s2]] w fun e w' => e = .returned (.int .i64 0) ∧ Below w.heap.size w w' := by
  have bA := chk_bounds hA.out
  have bB := chk_bounds hB.out
  go_enter Try.func126, Try.ntmps126
  go_wp2_with fail
  refine (check_ok _ _ _ _ ⟨by omega, by omega⟩ ⟨by omega, by omega⟩ ⟨by omega, by omega⟩ hA).mono ?_
  rintro e w1 ⟨rfl, hb1⟩
  obtain ⟨W1, z1, ⟨x0, x1, x2⟩, ⟨y0, y1, y2⟩⟩ := pair6 hb1
  clear hb1 x0 x1 x2
  go_wp2_with fail
  refine (check_ok _ _ _ _ ⟨by omega, by omega⟩ ⟨by omega, by omega⟩ ⟨by omega, by omega⟩ hB).mono ?_
  rintro e w2 ⟨rfl, hb2⟩
  have W2 := hidTrans W1 hb2 (by omega)
  clear hb2
  go_wp2
  go_ret
  exact ⟨rfl, W2.out⟩
/-- what Intersect returns, with the direction -/
def InterDir (l1 h1 s1 l2 h2 s2 : Int) (w : World) : Ending → World → Prop := fun e w' => ∃ l h s : Int, (chk l h s = 0 ∧ (∀ n, RMem l h s n ↔ RMem l1 h1 s1 n ∧ RMem l2 h2 s2 n) ∧ (l < h → (s < 0 ↔ s1 < 0))) ∧ e = .returned (.tuple #[.agg #[.int .i64 l, .int .i64 h, .int .i64 s], .int .i64 0]) ∧ Below w.heap.size w w'
theorem nS_dir {L H S s1 : Int} {dn : Bool} (hS : 1 ≤ S) (hd : L ≤ H → dn = decide (s1 < 0)) : nL L H < nH L H → (nS L H S dn < 0 ↔ s1 < 0) := by
  unfold nL nH nS
  by_cases c : H < L
  · rw [if_pos c, if_pos c]; omega
  · rw [if_neg c, if_neg c, if_neg c]
    intro lt
    rw [if_neg (by omega), hd (by omega)]
    by_cases d : s1 < 0
    · rw [if_pos (by simpa using d)]; omega
    · rw [if_neg (by simpa using d)]; omega
/-- the normal range of the common numbers -/
theorem inter_norm {l1 h1 s1 l2 h2 s2 L H S : Int} {dn : Bool} (hA : chk l1 h1 s1 = 0) (_hB : chk l2 h2 s2 = 0) (c : Common l1 h1 (magA s1) l2 h2 (magA s2) L H S) :
    chk (nL L H) (nH L H) (nS L H S dn) = 0 ∧ ∀ n, RMem (nL L H) (nH L H) (nS L H S dn) n ↔ RMem l1 h1 s1 n ∧ RMem l2 h2 s2 n := by
  obtain ⟨c1, c2, c3, c4, c5, c6, c7, c8⟩ := c
  by_cases ov : H < L
  · have e1 : nL L H = 1 := if_pos ov
    have e2 : nH L H = 0 := if_pos ov
    have e3 : nS L H S dn = 1 := if_pos ov
    rw [e1, e2, e3]
    refine ⟨by decide, fun n => ⟨fun hm => absurd hm (rmem_none (by omega)), fun hm => ?_⟩⟩
    have := (c8 n).2 hm
    have := this.1; have := ((c8 n).2 hm).2.1
    omega
  · have hd := c7 (by omega)
    have mL := (c8 L).1 ⟨by omega, by omega, by rw [Int.sub_self]; exact Int.dvd_zero _⟩
    have mH := (c8 H).1 ⟨by omega, by omega, hd⟩
    have bA := chk_bounds hA
    have bl := mL.1.1
    have bh := mH.1.2.1
    have hc := chk_nrm L H S dn (by omega) c1 (Int.emod_eq_zero_of_dvd hd)
    rw [if_neg (by omega)] at hc
    refine ⟨hc, fun n => ?_⟩
    have e1 : nL L H = L := if_neg ov
    have e2 : nH L H = H := if_neg ov
    unfold RMem
    rw [← c8 n, e1, e2]
    by_cases eq : L = H
    · have e3 : nS L H S dn = 1 := by unfold nS; rw [if_neg ov, if_pos eq]
      rw [e3]
      constructor
      · intro hm
        have := hm.1; have := hm.2.1
        exact ⟨by omega, by omega, by rw [show n - L = 0 by omega]; exact Int.dvd_zero _⟩
      · intro hm
        exact ⟨hm.1, hm.2.1, Int.one_dvd _⟩
    · have e3 : magA (nS L H S dn) = S := by
        unfold nS; rw [if_neg ov, if_neg eq]
        cases dn
        · rw [if_neg (by simp)]; exact magA_pos (by omega)
        · rw [if_pos rfl, magA_neg (by omega), Int.neg_neg]
      rw [e3]
/-- the two boxes and the result's block, behind a call -/
theorem res33 {w w1 : World} {t : TypeId} {a b c a' b' c' p q r : Value} (hb : Below (((w.alloc (.cells #[a, b, c] t)).alloc (.cells #[a', b', c'] t)).alloc (.cells #[p, q, r] t)).heap.size (((w.alloc (.cells #[a, b, c] t)).alloc (.cells #[a', b', c'] t)).alloc (.cells #[p, q, r] t)) w1) :
    Hid (Below w.heap.size w w1) ∧ w.heap.size + 1 + 1 < w1.heap.size ∧ (w1.cell? ⟨w.heap.size, 0, none⟩ = some a ∧ w1.cell? ⟨w.heap.size, 1, none⟩ = some b ∧ w1.cell? ⟨w.heap.size, 2, none⟩ = some c) ∧
      (w1.cell? ⟨w.heap.size + 1, 0, none⟩ = some a' ∧ w1.cell? ⟨w.heap.size + 1, 1, none⟩ = some b' ∧ w1.cell? ⟨w.heap.size + 1, 2, none⟩ = some c') ∧
      (w1.cell? ⟨w.heap.size + 1 + 1, 0, none⟩ = some p ∧ w1.cell? ⟨w.heap.size + 1 + 1, 1, none⟩ = some q ∧ w1.cell? ⟨w.heap.size + 1 + 1, 2, none⟩ = some r) ∧
      (w1.frozen? ⟨w.heap.size + 1 + 1, 0, none⟩ = false ∧ w1.frozen? ⟨w.heap.size + 1 + 1, 1, none⟩ = false ∧ w1.frozen? ⟨w.heap.size + 1 + 1, 2, none⟩ = false) := by
  have hs : w.heap.size + 1 + 1 < (((w.alloc (.cells #[a, b, c] t)).alloc (.cells #[a', b', c'] t)).alloc (.cells #[p, q, r] t)).heap.size := by simp
  have hs0 : w.heap.size < (((w.alloc (.cells #[a, b, c] t)).alloc (.cells #[a', b', c'] t)).alloc (.cells #[p, q, r] t)).heap.size := by simp <;> omega
  have hs1 : w.heap.size + 1 < (((w.alloc (.cells #[a, b, c] t)).alloc (.cells #[a', b', c'] t)).alloc (.cells #[p, q, r] t)).heap.size := by simp <;> omega
  refine ⟨((((Below.refl _ _).alloc (Nat.le_refl _) _).alloc (by simp) _).alloc (by simp; omega) _).trans (hb.mono (by omega)), Nat.lt_of_lt_of_le hs hb.size, ⟨?_, ?_, ?_⟩, ⟨?_, ?_, ?_⟩, ⟨?_, ?_, ?_⟩, ?_, ?_, ?_⟩
  · rw [hb.cell (p := ⟨w.heap.size, 0, none⟩) hs0]; simp [go_sem]
  · rw [hb.cell (p := ⟨w.heap.size, 1, none⟩) hs0]; simp [go_sem]
  · rw [hb.cell (p := ⟨w.heap.size, 2, none⟩) hs0]; simp [go_sem]
  · rw [hb.cell (p := ⟨w.heap.size + 1, 0, none⟩) hs1]; simp [go_sem]
  · rw [hb.cell (p := ⟨w.heap.size + 1, 1, none⟩) hs1]; simp [go_sem]
  · rw [hb.cell (p := ⟨w.heap.size + 1, 2, none⟩) hs1]; simp [go_sem]
  · rw [hb.cell (p := ⟨w.heap.size + 1 + 1, 0, none⟩) hs]; simp [go_sem]
  · rw [hb.cell (p := ⟨w.heap.size + 1 + 1, 1, none⟩) hs]; simp [go_sem]
  · rw [hb.cell (p := ⟨w.heap.size + 1 + 1, 2, none⟩) hs]; simp [go_sem]
  · rw [hb.frozen (p := ⟨w.heap.size + 1 + 1, 0, none⟩) hs]; simp [go_sem]
  · rw [hb.frozen (p := ⟨w.heap.size + 1 + 1, 1, none⟩) hs]; simp [go_sem]
  · rw [hb.frozen (p := ⟨w.heap.size + 1 + 1, 2, none⟩) hs]; simp [go_sem]
set_option maxHeartbeats 3200000 in
theorem Intersect_dir (l1 h1 s1 l2 h2 s2 : Int) (w : World) (hA : Hid (chk l1 h1 s1 = 0)) (hB : Hid (chk l2 h2 s2 = 0)) :
    Calls Try.prog 43 #[.agg #[.int .i64 l1, .int .i64 h1, .int .i64 s1], .agg #[.int .i64 l2, .int .i64 h2, .int .i64 s2]] w (InterDir l1 h1 s1 l2 h2 s2 w) := by
  have bA := chk_bounds hA.out
  have bB := chk_bounds hB.out
  have hne : ¬ w.heap.size = w.heap.size + 1 + 1 := by omega
  have hne' : ¬ w.heap.size + 1 + 1 = w.heap.size := by omega
  go_enter Try.func43, Try.ntmps43
  go_wp2_with fail
  refine (checkBoth_ok _ _ _ _ _ _ _ hA hB).mono ?_
  rintro e w1 ⟨rfl, hb1⟩
  obtain ⟨W1, z1, ⟨x0, x1, x2⟩, ⟨y0, y1, y2⟩, r, f⟩ := res33 hb1
  have G1 := Lib.hid (And.intro r f)
  clear hb1 r f
  go_wp2_with fail
  refine wp_region_held_drew (S := (fun w' => w'.cell? ⟨w.heap.size, 0, none⟩ = some (.int .i64 l1) ∧ w'.cell? ⟨w.heap.size, 1, none⟩ = some (.int .i64 h1) ∧ w'.cell? ⟨w.heap.size, 2, none⟩ = some (.int .i64 s1) ∧ w'.cell? ⟨w.heap.size + 1, 0, none⟩ = some (.int .i64 l2) ∧ w'.cell? ⟨w.heap.size + 1, 1, none⟩ = some (.int .i64 h2) ∧ w'.cell? ⟨w.heap.size + 1, 2, none⟩ = some (.int .i64 s2))) (by kernel_rfl) ?_ (fun hHeld => ?_)
  · first | exact ⟨x0, x1, x2, y0, y1, y2⟩ | exact hHeld | (simp [go_sem, *]; done) | go_keep
  refine wpAnyH_take (i := 0) (oi := { dst := some 14, op := Op.load 23 (Operand.tmp 2), type := 23, pos := "sets.go:13", after := #[], guard := none }) (v := ?_) rfl (by kernel_rfl) (by kernel_rfl) (by kernel_rfl) (fun _ _ _ h => h) (Or.inl ⟨by rfl, ?_⟩) (by assumption) ?_
  rotate_left
  · (intro w hSw; (try dsimp only at hSw); go_simp; first | done | with_reducible rfl)
  try simp only [Act.put, List.setIfInBounds_toArray, List.set_cons_zero, List.set_cons_succ]
  refine wpAnyH_take (i := 2) (oi := { dst := some 16, op := Op.load 23 (Operand.tmp 3), type := 23, pos := "sets.go:13", after := #[], guard := none }) (v := ?_) rfl (by kernel_rfl) (by kernel_rfl) (by kernel_rfl) (fun _ _ _ h => h) (Or.inl ⟨by rfl, ?_⟩) (by assumption) ?_
  rotate_left
  · (intro w hSw; (try dsimp only at hSw); go_simp; first | done | with_reducible rfl)
  try simp only [Act.put, List.setIfInBounds_toArray, List.set_cons_zero, List.set_cons_succ]
  refine wpAnyH_ready (rs := [1]) (by kernel_rfl) (by simp) ?_
  refine AllReadyH.cons (o := { dst := some 15, op := Op.call { callee := Callee.value (Operand.func 109), args := #[Operand.tmp 14], argTypes := #[23] }, type := 102, pos := "sets.go:13", after := #[{ on := 0, ground := Ground.data }], guard := none }) rfl (fun K hK => ?_) AllReadyH.nil
  go_simp
  refine (open_any _ _ _ _ (by omega) (by omega)).mono ?_
  rintro e w2 ⟨rfl, hb2⟩
  have z2' : w1.heap.size ≤ w2.heap.size := hb2.size
  have G2 := Lib.hid (keepF (show Below w1.heap.size w1 w2 from ⟨hb2.os, hb2.tape, hb2.output, hb2.size, hb2.block⟩) (by omega) G1.out.1 G1.out.2)
  go_wp2_with fail
  refine hK.out _ _ ?_ (fun hHeld1 => ?_)
  · (obtain ⟨q0, q1, q2, q3, q4, q5⟩ := hHeld; exact ⟨(hb2.cell (p := ⟨w.heap.size, 0, none⟩) (by simp; omega)).trans q0, (hb2.cell (p := ⟨w.heap.size, 1, none⟩) (by simp; omega)).trans q1, (hb2.cell (p := ⟨w.heap.size, 2, none⟩) (by simp; omega)).trans q2, (hb2.cell (p := ⟨w.heap.size + 1, 0, none⟩) (by simp; omega)).trans q3, (hb2.cell (p := ⟨w.heap.size + 1, 1, none⟩) (by simp; omega)).trans q4, (hb2.cell (p := ⟨w.heap.size + 1, 2, none⟩) (by simp; omega)).trans q5⟩)
  clear hK K hHeld
  have hHeld := hHeld1
  clear hHeld1
  try simp only [Act.put, List.setIfInBounds_toArray, List.set_cons_zero, List.set_cons_succ]
  refine wpAnyH_ready (rs := [3]) (by kernel_rfl) (by simp) ?_
  refine AllReadyH.cons (o := { dst := some 17, op := Op.call { callee := Callee.value (Operand.func 109), args := #[Operand.tmp 16], argTypes := #[23] }, type := 102, pos := "sets.go:13", after := #[{ on := 2, ground := Ground.data }, { on := 1, ground := Ground.chain }], guard := none }) rfl (fun K hK => ?_) AllReadyH.nil
  go_simp
  refine (open_any _ _ _ _ (by omega) (by omega)).mono ?_
  rintro e w3 ⟨rfl, hb3⟩
  have z3' : w2.heap.size ≤ w3.heap.size := hb3.size
  have G3 := Lib.hid (keepF (show Below w2.heap.size w2 w3 from ⟨hb3.os, hb3.tape, hb3.output, hb3.size, hb3.block⟩) (by omega) G2.out.1 G2.out.2)
  go_wp2_with fail
  refine hK.out _ _ ?_ (fun hHeld3 => ?_)
  · (obtain ⟨q0, q1, q2, q3, q4, q5⟩ := hHeld; exact ⟨(hb3.cell (p := ⟨w.heap.size, 0, none⟩) (by simp; omega)).trans q0, (hb3.cell (p := ⟨w.heap.size, 1, none⟩) (by simp; omega)).trans q1, (hb3.cell (p := ⟨w.heap.size, 2, none⟩) (by simp; omega)).trans q2, (hb3.cell (p := ⟨w.heap.size + 1, 0, none⟩) (by simp; omega)).trans q3, (hb3.cell (p := ⟨w.heap.size + 1, 1, none⟩) (by simp; omega)).trans q4, (hb3.cell (p := ⟨w.heap.size + 1, 2, none⟩) (by simp; omega)).trans q5⟩)
  clear hK K hHeld
  have hHeld := hHeld3
  clear hHeld3
  try simp only [Act.put, List.setIfInBounds_toArray, List.set_cons_zero, List.set_cons_succ]
  refine wpAnyH_ready (rs := [4]) (by kernel_rfl) (by simp) ?_
  refine AllReadyH.cons (o := { dst := some 18, op := Op.call { callee := Callee.value (Operand.func 127), args := #[Operand.tmp 15, Operand.tmp 17], argTypes := #[102, 102] }, type := 102, pos := "sets.go:13", after := #[{ on := 1, ground := Ground.data }, { on := 3, ground := Ground.data }, { on := 3, ground := Ground.chain }], guard := none }) rfl (fun K hK => ?_) AllReadyH.nil
  go_simp
  refine (common_dir _ _ _ _ _ _ _ _ _ bA.1 bA.2.1 bA.2.2.1 bA.2.2.2.1 bA.2.2.2.2.2.2.1 bA.2.2.2.2.2.2.2 bB.1 bB.2.1 bB.2.2.1 bB.2.2.2.1 bB.2.2.2.2.2.2.1 bB.2.2.2.2.2.2.2).mono ?_
  rintro e w4 ⟨L, H, S, dn, hC, rfl, hb4⟩
  have HC := Lib.hid hC
  have cS1 := hC.1.1
  have cS2 := hC.1.2.1
  clear hC
  have z4' : w3.heap.size ≤ w4.heap.size := hb4.size
  have G4 := Lib.hid (keepF (show Below w3.heap.size w3 w4 from ⟨hb4.os, hb4.tape, hb4.output, hb4.size, hb4.block⟩) (by omega) G3.out.1 G3.out.2)
  go_wp2_with fail
  refine hK.out _ _ ?_ (fun hHeld4 => ?_)
  · (obtain ⟨q0, q1, q2, q3, q4, q5⟩ := hHeld; exact ⟨(hb4.cell (p := ⟨w.heap.size, 0, none⟩) (by simp; omega)).trans q0, (hb4.cell (p := ⟨w.heap.size, 1, none⟩) (by simp; omega)).trans q1, (hb4.cell (p := ⟨w.heap.size, 2, none⟩) (by simp; omega)).trans q2, (hb4.cell (p := ⟨w.heap.size + 1, 0, none⟩) (by simp; omega)).trans q3, (hb4.cell (p := ⟨w.heap.size + 1, 1, none⟩) (by simp; omega)).trans q4, (hb4.cell (p := ⟨w.heap.size + 1, 2, none⟩) (by simp; omega)).trans q5⟩)
  clear hK K hHeld
  have hHeld := hHeld4
  clear hHeld4
  try simp only [Act.put, List.setIfInBounds_toArray, List.set_cons_zero, List.set_cons_succ]
  refine wpAnyH_ready (rs := [5]) (by kernel_rfl) (by simp) ?_
  refine AllReadyH.cons (o := { dst := some 19, op := Op.call { callee := Callee.value (Operand.func 105), args := #[Operand.tmp 18], argTypes := #[102] }, type := 23, pos := "sets.go:13", after := #[{ on := 4, ground := Ground.data }, { on := 4, ground := Ground.chain }], guard := none }) rfl (fun K hK => ?_) AllReadyH.nil
  go_simp
  refine (normal_any _ _ _ _ _ (by omega) (by omega)).mono ?_
  rintro e w5 ⟨rfl, hb5⟩
  have z5' : w4.heap.size ≤ w5.heap.size := hb5.size
  have G5 := Lib.hid (keepF (show Below w4.heap.size w4 w5 from ⟨hb5.os, hb5.tape, hb5.output, hb5.size, hb5.block⟩) (by omega) G4.out.1 G4.out.2)
  obtain ⟨⟨g0, g1, g2⟩, f0, f1, f2⟩ := G5.out
  go_wp2_with fail
  refine hK.out _ _ ?_ (fun hHeld5 => ?_)
  · (obtain ⟨q0, q1, q2, q3, q4, q5⟩ := hHeld; exact ⟨(hb5.cell (p := ⟨w.heap.size, 0, none⟩) (by simp; omega)).trans q0, (hb5.cell (p := ⟨w.heap.size, 1, none⟩) (by simp; omega)).trans q1, (hb5.cell (p := ⟨w.heap.size, 2, none⟩) (by simp; omega)).trans q2, (hb5.cell (p := ⟨w.heap.size + 1, 0, none⟩) (by simp; omega)).trans q3, (hb5.cell (p := ⟨w.heap.size + 1, 1, none⟩) (by simp; omega)).trans q4, (hb5.cell (p := ⟨w.heap.size + 1, 2, none⟩) (by simp; omega)).trans q5⟩)
  clear hK K hHeld
  have hHeld := hHeld5
  clear hHeld5
  try simp only [Act.put, List.setIfInBounds_toArray, List.set_cons_zero, List.set_cons_succ]
  refine wpAnyH_ready (rs := [6]) (by kernel_rfl) (by simp) ?_
  refine AllReadyH.cons (o := { dst := none, op := Op.store 23 (Operand.tmp 4) (Operand.tmp 19), type := 0, pos := "sets.go:13", after := #[{ on := 5, ground := Ground.data }, { on := 5, ground := Ground.chain }, { on := 0, ground := Ground.phase }, { on := 1, ground := Ground.phase }, { on := 2, ground := Ground.phase }, { on := 3, ground := Ground.phase }, { on := 4, ground := Ground.phase }, { on := 5, ground := Ground.phase }], guard := none }) rfl (fun K hK => ?_) AllReadyH.nil
  go_simp
  refine hK.out _ _ ?_ (fun hHeld6 => ?_)
  · first | exact ⟨x0, x1, x2, y0, y1, y2⟩ | exact hHeld | (simp [go_sem, *]; done) | go_keep
  clear hK K hHeld
  have hHeld := hHeld6
  clear hHeld6
  try simp only [Act.put, List.setIfInBounds_toArray, List.set_cons_zero, List.set_cons_succ]
  refine wpAnyH_take (i := 7) (oi := { dst := some 5, op := Op.assign (Operand.const (Value.int IntKind.i64 0)), type := 24, pos := "sets.go:13", after := #[{ on := 6, ground := Ground.chain }, { on := 0, ground := Ground.phase }, { on := 1, ground := Ground.phase }, { on := 2, ground := Ground.phase }, { on := 3, ground := Ground.phase }, { on := 4, ground := Ground.phase }, { on := 5, ground := Ground.phase }, { on := 6, ground := Ground.phase }], guard := none }) (v := ?_) rfl (by kernel_rfl) (by kernel_rfl) (by kernel_rfl) (fun _ _ _ h => h) (Or.inl ⟨by rfl, ?_⟩) (by assumption) ?_
  rotate_left
  · (intro w hSw; (try dsimp only at hSw); go_simp; first | done | with_reducible rfl)
  try simp only [Act.put, List.setIfInBounds_toArray, List.set_cons_zero, List.set_cons_succ]
  refine wpAnyH_done (by kernel_rfl) ?_ _
  have Wa := W1.out.drew.trans (hb2.mono (by simp; omega))
  have Wa := Wa.trans (hb3.mono (by omega))
  have Wa := Wa.trans (hb4.mono (by omega))
  have Wa := Wa.trans (hb5.mono (by omega))
  have W := Lib.hid Wa
  clear Wa hHeld hb2 hb3 hb4 hb5 W1
  go_wp2
  refine bodyPost_ret (v := .tuple #[.agg #[.int .i64 (nL L H), .int .i64 (nH L H), .int .i64 (nS L H S dn)], .int .i64 0]) (by simp [results, Try.results43, go_sem, *]) rfl ⟨_, _, _, ⟨(inter_norm hA.out hB.out HC.out.1).1, (inter_norm hA.out hB.out HC.out.1).2, nS_dir cS1 HC.out.2⟩, rfl, ?_⟩
  repeat (first | exact W.out | refine Below.setCell ?_ (by simp; try omega) _)
end Go.Proofs.Ytmelknodmbdhpaa
namespace Go.Proofs.Ytmelknodmbdhpaa
open Go.RowKit
/-- a block of four cells that the call itself made -/
structure Blk (g : Nat) (a b c d : Value) (w : World) : Prop where
  size : g < w.heap.size
  c0 : w.cell? ⟨g, 0, none⟩ = some a
  c1 : w.cell? ⟨g, 1, none⟩ = some b
  c2 : w.cell? ⟨g, 2, none⟩ = some c
  c3 : w.cell? ⟨g, 3, none⟩ = some d
  f0 : w.frozen? ⟨g, 0, none⟩ = false
  f1 : w.frozen? ⟨g, 1, none⟩ = false
  f2 : w.frozen? ⟨g, 2, none⟩ = false
  f3 : w.frozen? ⟨g, 3, none⟩ = false
theorem Blk.keep {g : Nat} {a b c d : Value} {w w1 : World} (k : Blk g a b c d w) (hb : Below w.heap.size w w1) : Blk g a b c d w1 :=
  ⟨Nat.lt_of_lt_of_le k.size hb.size, (hb.cell (p := ⟨g, 0, none⟩) k.size).trans k.c0, (hb.cell (p := ⟨g, 1, none⟩) k.size).trans k.c1, (hb.cell (p := ⟨g, 2, none⟩) k.size).trans k.c2, (hb.cell (p := ⟨g, 3, none⟩) k.size).trans k.c3,
    (hb.frozen (p := ⟨g, 0, none⟩) k.size).trans k.f0, (hb.frozen (p := ⟨g, 1, none⟩) k.size).trans k.f1, (hb.frozen (p := ⟨g, 2, none⟩) k.size).trans k.f2, (hb.frozen (p := ⟨g, 3, none⟩) k.size).trans k.f3⟩
theorem Blk.new (a b c d : Value) (t : TypeId) (w : World) : Blk w.heap.size a b c d (w.alloc (.cells #[a, b, c, d] t)) := by
  constructor <;> simp [go_sem]
theorem below_new (w : World) (o : Obj) : Below w.heap.size w (w.alloc o) := (Below.refl _ _).alloc (Nat.le_refl _) o
/-- four stores into a block -/
def set4 (w : World) (g : Nat) (a b c d : Value) : World := (((w.setCell ⟨g, 0, none⟩ a).setCell ⟨g, 1, none⟩ b).setCell ⟨g, 2, none⟩ c).setCell ⟨g, 3, none⟩ d
theorem Blk.set {g : Nat} {a b c d : Value} {w : World} (k : Blk g a b c d w) (a' b' c' d' : Value) : Blk g a' b' c' d' (set4 w g a' b' c' d') := by
  obtain ⟨s, c0, c1, c2, c3, f0, f1, f2, f3⟩ := k
  constructor
  · simp [set4, World.setCell]; exact s
  all_goals simp [set4, go_sem, *]
theorem Blk.other {g k : Nat} {a b c d : Value} {w : World} (h : Blk g a b c d w) (hne : g ≠ k) (a' b' c' d' : Value) : Blk g a b c d (set4 w k a' b' c' d') := by
  obtain ⟨s, c0, c1, c2, c3, f0, f1, f2, f3⟩ := h
  constructor
  · simp [set4, World.setCell]; exact s
  all_goals simp [set4, go_sem, *]
/-- what Hull's own blocks keep: the ranges, the result -/
structure HuRest (w : World) (w' : World) : Prop where
  size : w.heap.size + 1 + 1 < w'.heap.size
  below : Below w.heap.size w w'
  r : w'.cell? ⟨w.heap.size + 1 + 1, 0, none⟩ = some (.int .i64 0) ∧ w'.cell? ⟨w.heap.size + 1 + 1, 1, none⟩ = some (.int .i64 0) ∧ w'.cell? ⟨w.heap.size + 1 + 1, 2, none⟩ = some (.int .i64 0)
  f : w'.frozen? ⟨w.heap.size + 1 + 1, 0, none⟩ = false ∧ w'.frozen? ⟨w.heap.size + 1 + 1, 1, none⟩ = false ∧ w'.frozen? ⟨w.heap.size + 1 + 1, 2, none⟩ = false
def HuS (w : World) (l1 h1 s1 l2 h2 s2 : Int) (w' : World) : Prop := w'.cell? ⟨w.heap.size, 0, none⟩ = some (.int .i64 l1) ∧ w'.cell? ⟨w.heap.size, 1, none⟩ = some (.int .i64 h1) ∧ w'.cell? ⟨w.heap.size, 2, none⟩ = some (.int .i64 s1) ∧
  w'.cell? ⟨w.heap.size + 1, 0, none⟩ = some (.int .i64 l2) ∧ w'.cell? ⟨w.heap.size + 1, 1, none⟩ = some (.int .i64 h2) ∧ w'.cell? ⟨w.heap.size + 1, 2, none⟩ = some (.int .i64 s2) ∧ HuRest w w'
theorem HuS.keep {w : World} {l1 h1 s1 l2 h2 s2 : Int} {w1 w2 : World} (h : HuS w l1 h1 s1 l2 h2 s2 w1) (hb : Below (w.heap.size + 3) w1 w2) : HuS w l1 h1 s1 l2 h2 s2 w2 := by
  obtain ⟨x0, x1, x2, y0, y1, y2, z, b, r, f⟩ := h
  exact ⟨(hb.cell (p := ⟨w.heap.size, 0, none⟩) (by simp)).trans x0, (hb.cell (p := ⟨w.heap.size, 1, none⟩) (by simp)).trans x1, (hb.cell (p := ⟨w.heap.size, 2, none⟩) (by simp)).trans x2,
    (hb.cell (p := ⟨w.heap.size + 1, 0, none⟩) (by simp)).trans y0, (hb.cell (p := ⟨w.heap.size + 1, 1, none⟩) (by simp)).trans y1, (hb.cell (p := ⟨w.heap.size + 1, 2, none⟩) (by simp)).trans y2,
    Nat.lt_of_lt_of_le z hb.size, b.trans (hb.mono (by omega)),
    ⟨(hb.cell (p := ⟨w.heap.size + 1 + 1, 0, none⟩) (by simp)).trans r.1, (hb.cell (p := ⟨w.heap.size + 1 + 1, 1, none⟩) (by simp)).trans r.2.1, (hb.cell (p := ⟨w.heap.size + 1 + 1, 2, none⟩) (by simp)).trans r.2.2⟩,
    ⟨(hb.frozen (p := ⟨w.heap.size + 1 + 1, 0, none⟩) (by simp)).trans f.1, (hb.frozen (p := ⟨w.heap.size + 1 + 1, 1, none⟩) (by simp)).trans f.2.1, (hb.frozen (p := ⟨w.heap.size + 1 + 1, 2, none⟩) (by simp)).trans f.2.2⟩⟩
theorem HuS.three {w : World} {l1 h1 s1 l2 h2 s2 : Int} {w1 : World} (h : HuS w l1 h1 s1 l2 h2 s2 w1) : w.heap.size + 3 ≤ w1.heap.size := by have := h.2.2.2.2.2.2.size; omega
theorem Blk.set3 {g : Nat} {a b c d : Value} {w : World} (k : Blk g a b c d w) (d' : Value) : Blk g a b c d' (w.setCell ⟨g, 3, none⟩ d') := by
  have s := k.size
  have c0 := k.c0
  have c1 := k.c1
  have c2 := k.c2
  have c3 := k.c3
  have f0 := k.f0
  have f1 := k.f1
  have f2 := k.f2
  have f3 := k.f3
  constructor
  · simp [World.setCell]; exact s
  all_goals simp [go_sem, *]
theorem size_num {l h s : Int} (hk : chk l h s = 0) (hle : l ≤ h) : 1 ≤ siz l h s := (steps_a hk hle).2.1
end Go.Proofs.Ytmelknodmbdhpaa
namespace Go.Proofs.Ytmelknodmbdhpaa
open Go.RowKit
/-- a block of three cells that the call itself made -/
structure B3 (g : Nat) (a b c : Value) (w : World) : Prop where
  size : g < w.heap.size
  c0 : w.cell? ⟨g, 0, none⟩ = some a
  c1 : w.cell? ⟨g, 1, none⟩ = some b
  c2 : w.cell? ⟨g, 2, none⟩ = some c
  f0 : w.frozen? ⟨g, 0, none⟩ = false
  f1 : w.frozen? ⟨g, 1, none⟩ = false
  f2 : w.frozen? ⟨g, 2, none⟩ = false
theorem B3.keep {g : Nat} {a b c : Value} {w w1 : World} (k : B3 g a b c w) (hb : Below w.heap.size w w1) : B3 g a b c w1 :=
  ⟨Nat.lt_of_lt_of_le k.size hb.size, (hb.cell (p := ⟨g, 0, none⟩) k.size).trans k.c0, (hb.cell (p := ⟨g, 1, none⟩) k.size).trans k.c1, (hb.cell (p := ⟨g, 2, none⟩) k.size).trans k.c2,
    (hb.frozen (p := ⟨g, 0, none⟩) k.size).trans k.f0, (hb.frozen (p := ⟨g, 1, none⟩) k.size).trans k.f1, (hb.frozen (p := ⟨g, 2, none⟩) k.size).trans k.f2⟩
/-- three stores into a block -/
def set3 (w : World) (g : Nat) (a b c : Value) : World := ((w.setCell ⟨g, 0, none⟩ a).setCell ⟨g, 1, none⟩ b).setCell ⟨g, 2, none⟩ c
theorem set3s_below {B g : Nat} {w : World} (h : B ≤ g) (a b c : Value) : Below B w (set3 w g a b c) :=
  (((Below.refl _ _).setCell (p := ⟨g, 0, none⟩) h a).setCell (p := ⟨g, 1, none⟩) h b).setCell (p := ⟨g, 2, none⟩) h c
theorem B3.set {g : Nat} {a b c : Value} {w : World} (k : B3 g a b c w) (a' b' c' : Value) : B3 g a' b' c' (set3 w g a' b' c') := by
  obtain ⟨s, c0, c1, c2, f0, f1, f2⟩ := k
  constructor
  · simp [set3, World.setCell]; exact s
  all_goals simp [set3, go_sem, *]
theorem B3.other {g k : Nat} {a b c : Value} {w : World} (h : B3 g a b c w) (hne : g ≠ k) (a' b' c' : Value) : B3 g a b c (set3 w k a' b' c') := by
  obtain ⟨s, c0, c1, c2, f0, f1, f2⟩ := h
  constructor
  · simp [set3, World.setCell]; exact s
  all_goals simp [set3, go_sem, *]
/-- the blocks of a function with two ranges and a result that is a range -/
structure T3 (w : World) (a1 a2 a3 b1 b2 b3 : Int) (w' : World) : Prop where
  below : Below w.heap.size w w'
  a : B3 w.heap.size (.int .i64 a1) (.int .i64 a2) (.int .i64 a3) w'
  b : B3 (w.heap.size + 1) (.int .i64 b1) (.int .i64 b2) (.int .i64 b3) w'
  r : B3 (w.heap.size + 1 + 1) (.int .i64 0) (.int .i64 0) (.int .i64 0) w'
theorem T3.keep {w w1 w2 : World} {a1 a2 a3 b1 b2 b3 : Int} (h : T3 w a1 a2 a3 b1 b2 b3 w1) (hb : Below w1.heap.size w1 w2) : T3 w a1 a2 a3 b1 b2 b3 w2 :=
  ⟨h.below.trans (hb.mono h.below.size), h.a.keep hb, h.b.keep hb, h.r.keep hb⟩
theorem B3.new (a b c : Value) (t : TypeId) (w : World) : B3 w.heap.size a b c (w.alloc (.cells #[a, b, c] t)) := by
  constructor <;> simp [go_sem]
theorem T3.new {w w1 : World} {t : TypeId} {a1 a2 a3 b1 b2 b3 : Int} (hb : Below (((w.alloc (.cells #[.int .i64 a1, .int .i64 a2, .int .i64 a3] t)).alloc (.cells #[.int .i64 b1, .int .i64 b2, .int .i64 b3] t)).alloc (.cells #[.int .i64 0, .int .i64 0, .int .i64 0] t)).heap.size (((w.alloc (.cells #[.int .i64 a1, .int .i64 a2, .int .i64 a3] t)).alloc (.cells #[.int .i64 b1, .int .i64 b2, .int .i64 b3] t)).alloc (.cells #[.int .i64 0, .int .i64 0, .int .i64 0] t)) w1) : T3 w a1 a2 a3 b1 b2 b3 w1 := by
  have n0 := B3.new (.int .i64 a1) (.int .i64 a2) (.int .i64 a3) t w
  have n1 := B3.new (.int .i64 b1) (.int .i64 b2) (.int .i64 b3) t (w.alloc (.cells #[.int .i64 a1, .int .i64 a2, .int .i64 a3] t))
  have n2 := B3.new (.int .i64 0) (.int .i64 0) (.int .i64 0) t ((w.alloc (.cells #[.int .i64 a1, .int .i64 a2, .int .i64 a3] t)).alloc (.cells #[.int .i64 b1, .int .i64 b2, .int .i64 b3] t))
  have m0 := (n0.keep (below_new _ _)).keep (w1 := ((w.alloc (.cells #[.int .i64 a1, .int .i64 a2, .int .i64 a3] t)).alloc (.cells #[.int .i64 b1, .int .i64 b2, .int .i64 b3] t)).alloc (.cells #[.int .i64 0, .int .i64 0, .int .i64 0] t)) (below_new _ _)
  have m1 := n1.keep (w1 := ((w.alloc (.cells #[.int .i64 a1, .int .i64 a2, .int .i64 a3] t)).alloc (.cells #[.int .i64 b1, .int .i64 b2, .int .i64 b3] t)).alloc (.cells #[.int .i64 0, .int .i64 0, .int .i64 0] t)) (below_new _ _)
  have e1 : (w.alloc (.cells #[.int .i64 a1, .int .i64 a2, .int .i64 a3] t)).heap.size = w.heap.size + 1 := by simp
  have e2 : ((w.alloc (.cells #[.int .i64 a1, .int .i64 a2, .int .i64 a3] t)).alloc (.cells #[.int .i64 b1, .int .i64 b2, .int .i64 b3] t)).heap.size = w.heap.size + 1 + 1 := by simp
  rw [e1] at m1
  rw [e2] at n2
  exact ⟨((((Below.refl _ _).alloc (Nat.le_refl _) _).alloc (by simp) _).alloc (by simp; omega) _).trans (hb.mono (by simp; omega)), m0.keep hb, m1.keep hb, n2.keep hb⟩
/-- what stands in the boxes behind the test whether one is empty -/
def Sub1 (l1 h1 s1 l2 h2 s2 a1 a2 a3 : Int) : Prop := (l1 ≤ h1 ∧ a1 = l1 ∧ a2 = h1 ∧ a3 = s1) ∨ (¬ l1 ≤ h1 ∧ a1 = l2 ∧ a2 = h2 ∧ a3 = s2)
theorem Sub1.chk {l1 h1 s1 l2 h2 s2 a1 a2 a3 : Int} (h : Sub1 l1 h1 s1 l2 h2 s2 a1 a2 a3) (hA : chk l1 h1 s1 = 0) (hB : chk l2 h2 s2 = 0) : chk a1 a2 a3 = 0 := by
  rcases h with ⟨_, rfl, rfl, rfl⟩ | ⟨_, rfl, rfl, rfl⟩ <;> assumption
end Go.Proofs.Ytmelknodmbdhpaa
namespace Go.Proofs.Ytmelknodmbdhpaa
open Go.RowKit
abbrev R3 := Int × Int × Int
/-- the cells of ranges, one behind the other -/
def cells3 : List R3 → List Value
  | [] => []
  | x :: L => .int .i64 x.1 :: .int .i64 x.2.1 :: .int .i64 x.2.2 :: cells3 L
theorem cells3_append (A B : List R3) : cells3 (A ++ B) = cells3 A ++ cells3 B := by
  induction A with
  | nil => rfl
  | cons x A ih => simp only [List.cons_append, cells3, ih]
theorem cells3_length (A : List R3) : (cells3 A).length = A.length * 3 := by
  induction A with
  | nil => rfl
  | cons x A ih => simp only [cells3, List.length_cons, ih]; omega
theorem cells3_get : ∀ (A : List R3) (j : Nat) (x : R3), A[j]? = some x → (cells3 A)[j * 3]? = some (.int .i64 x.1) ∧ (cells3 A)[j * 3 + 1]? = some (.int .i64 x.2.1) ∧ (cells3 A)[j * 3 + 2]? = some (.int .i64 x.2.2)
  | [], j, x, h => by simp at h
  | y :: A, 0, x, h => by simp at h; subst h; exact ⟨rfl, rfl, rfl⟩
  | y :: A, j + 1, x, h => by
    have := cells3_get A j x (by simpa using h)
    rw [show (j + 1) * 3 = j * 3 + 1 + 1 + 1 by omega]
    simpa [cells3] using this
theorem cells3_one (A : List R3) : ∀ u ∈ cells3 A, u.oneCell' = true := by
  induction A with
  | nil => intro u h; cases h
  | cons x A ih =>
    intro u h
    simp only [cells3, List.mem_cons] at h
    rcases h with rfl | rfl | rfl | h
    · rfl
    · rfl
    · rfl
    · exact ih u h
/-- the right range with ends, a step and a direction -/
def nrm (lo hi st : Int) (dn : Bool) : R3 := (nL lo hi, nH lo hi, nS lo hi st dn)
/-- a list with a range behind it, if this is not empty -/
def addP (L : List R3) (lo hi st : Int) (dn : Bool) : List R3 := if lo ≤ hi then L ++ [nrm lo hi st dn] else L
theorem addP_le (L : List R3) (lo hi st : Int) (dn : Bool) : L.length ≤ (addP L lo hi st dn).length ∧ (addP L lo hi st dn).length ≤ L.length + 1 := by
  unfold addP; split <;> simp
def putP (L : List R3) (l h s : Int) : List R3 := if reqB l h s 1 0 1 = true then L else L ++ [(l, h, s)]
theorem putP_nrm (L : List R3) (lo hi st : Int) (dn : Bool) : putP L (nL lo hi) (nH lo hi) (nS lo hi st dn) = addP L lo hi st dn := by
  unfold putP addP nrm nL nH nS
  by_cases c : hi < lo
  · rw [if_pos c, if_pos c, if_pos c, if_neg (by omega : ¬ lo ≤ hi), if_pos (by decide)]
  · rw [if_neg c, if_neg c, if_neg c, if_pos (by omega : lo ≤ hi), if_neg]
    unfold reqB
    simp; omega
theorem owns_below {w w' : World} {base : Nat} {e : TypeId} {size : Nat} {v : Value} {n : Nat} {xs : List Value} (h : w.ownsRow base e size v n xs) (hb : Below w.heap.size w w') : w'.ownsRow base e size v n xs := by
  refine ⟨h.1, ?_⟩
  rcases h.2 with hn | ⟨g, cap, cur, rfl, hg, hgg, rest⟩
  · exact Or.inl hn
  · exact Or.inr ⟨g, cap, cur, rfl, hg, by rw [hb.block g (Array.getElem?_eq_some_iff.1 hgg).1]; exact hgg, rest⟩
theorem owns_base {w : World} {base base' : Nat} {e : TypeId} {size : Nat} {v : Value} {n : Nat} {xs : List Value} (h : w.ownsRow base e size v n xs) (hb : base' ≤ base) : w.ownsRow base' e size v n xs := by
  refine ⟨h.1, ?_⟩
  rcases h.2 with hn | ⟨g, cap, cur, hv, hg, rest⟩
  · exact Or.inl hn
  · exact Or.inr ⟨g, cap, cur, hv, Nat.le_trans hb hg, rest⟩
theorem owns_slice {w : World} {base : Nat} {e : TypeId} {size : Nat} {v : Value} {n : Nat} {xs : List Value} (h : w.ownsRow base e size v n xs) : ∃ ao cap, v = .slice ao n cap := by
  rcases h.2 with ⟨rfl, rfl⟩ | ⟨g, cap, cur, rfl, _⟩
  · exact ⟨none, 0, rfl⟩
  · exact ⟨_, cap, rfl⟩
theorem Try.infoRange : (Try.prog.info? 23).map (fun i => (i.zero, i.size, i.bytes)) = some (some (.agg #[.int .i64 0, .int .i64 0, .int .i64 0]), 3, 24) := by kernel_rfl
/-- what put returns -/
def PutRet (base : Nat) (L : List R3) (w : World) : Ending → World → Prop := fun e w' => ∃ v, e = .returned v ∧ w'.ownsRow base 23 3 v L.length (cells3 L) ∧ Below base w w'
set_option maxHeartbeats 1600000 in
theorem put_any (v : Value) (L : List R3) (l h s : Int) (base : Nat) (w : World) (hown : w.ownsRow base 23 3 v L.length (cells3 L)) (hb : base ≤ w.heap.size) (hn : L.length ≤ 5000) :
    Calls Try.prog 130 #[v, .agg #[.int .i64 l, .int .i64 h, .int .i64 s]] w (PutRet base (putP L l h s) w) := by
  obtain ⟨i0, hi, hz0, hz1, hz2⟩ := info_parts Try.infoRange
  have hl := cells3_length L
  have OWN := Lib.hid hown
  clear hown
  go_enter Try.func130, Try.ntmps130
  go_wp2_with fail
  refine (refIsEmpty_any _ _ _ _).mono ?_
  rintro e w1 ⟨rfl, hb1⟩
  have OWN1 := Lib.hid (owns_below (OWN.out.alloc _) hb1)
  obtain ⟨W1, z1, x0, x1, x2⟩ := box3 hb1
  clear hb1 OWN
  cases hq : reqB l h s 1 0 1
  · go_wp2_with (first | (at_builtin; refine wpList_append_own _ rfl (.tmp 8) (.tmp 10) 40 rfl base 23 i0 (.agg #[.int .i64 0, .int .i64 0, .int .i64 0]) 3 24 Try.underlying40 hi hz0 hz1 hz2 rfl (by decide) v L.length (cells3 L) rfl (OWN1.out.alloc _) ⟨w1.heap.size, 0, none⟩ 1 1 (cells3 [(l, h, s)]) rfl rfl ?c1 ?c2 ?c3 ?c4 ?c5 ?_))
    case c1 => exact World.news_of_block (cs := #[.int .i64 l, .int .i64 h, .int .i64 s]) (t := 23) (fr := (0, 0)) (heap_alloc_new w1 _)
    case c2 => exact cells3_one _
    case c3 => unfold maxLen; omega
    case c4 => omega
    case c5 => simp; omega
    intro v' w2 own2 grow2 _
    have W2 : Hid (Below base w w2) := Lib.hid (((W1.out.mono hb).alloc (by omega) _).grown grow2 (by simp; omega) (fun k hk => (OWN1.out.lt k hk).1))
    have e1 : putP L l h s = L ++ [(l, h, s)] := by unfold putP; rw [hq]; rfl
    have O2 : Hid (w2.ownsRow base 23 3 v' (putP L l h s).length (cells3 (putP L l h s))) := Lib.hid (by rw [e1, cells3_append, List.length_append]; exact own2)
    clear own2 grow2 e1 hq OWN1 W1 x0 x1 x2
    go_wp2
    exact bodyPost_ret (v := v') (by simp [results, Try.results130, go_sem, *]) rfl ⟨v', rfl, O2.out, W2.out⟩
  · have O2 : Hid (w1.ownsRow base 23 3 v (putP L l h s).length (cells3 (putP L l h s))) := Lib.hid (by unfold putP; rw [hq]; exact OWN1.out)
    clear hq OWN1
    go_wp2
    exact bodyPost_ret (v := v) (by simp [results, Try.results130, go_sem, *]) rfl ⟨v, rfl, O2.out, W1.out.mono hb⟩
/-- put of a normal range -/
theorem put_nrm (v : Value) (L : List R3) (lo hi st : Int) (dn : Bool) (base : Nat) (w : World) (hown : w.ownsRow base 23 3 v L.length (cells3 L)) (hb : base ≤ w.heap.size) (hn : L.length ≤ 5000) :
    Calls Try.prog 130 #[v, .agg #[.int .i64 (nL lo hi), .int .i64 (nH lo hi), .int .i64 (nS lo hi st dn)]] w (PutRet base (addP L lo hi st dn) w) := by
  rw [← putP_nrm]
  exact put_any v L _ _ _ base w hown hb hn
end Go.Proofs.Ytmelknodmbdhpaa
namespace Go.Proofs.Ytmelknodmbdhpaa
open Go.RowKit
/-- below block B only block g may have changed -/
structure Apart (B g : Nat) (w w' : World) : Prop where
  os : w'.os = w.os
  tape : w'.tape = w.tape
  output : w'.output = w.output
  size : w.heap.size ≤ w'.heap.size
  block : ∀ k, k < B → k ≠ g → w'.heap[k]? = w.heap[k]?
theorem Apart.cell {B g : Nat} {w w' : World} (h : Apart B g w w') {p : Addr} (hp : p.block < B) (hg : p.block ≠ g) : w'.cell? p = w.cell? p := World.cell?_of_block (w := w) (h.block p.block hp hg)
theorem Apart.below {B g C : Nat} {w w' : World} (h : Apart B g w w') (h1 : C ≤ g) (h2 : C ≤ B) : Below C w w' := ⟨h.os, h.tape, h.output, h.size, fun k hk => h.block k (by omega) (by omega)⟩
theorem Apart.of_below {B g : Nat} {w w' : World} (h : Below B w w') : Apart B g w w' := ⟨h.os, h.tape, h.output, h.size, fun k hk _ => h.block k hk⟩
theorem Apart.setCell {B g : Nat} {a w : World} (h : Apart B g a w) (u : Value) : Apart B g a (w.setCell ⟨g, 0, none⟩ u) :=
  ⟨h.os, h.tape, h.output, by simpa [World.setCell] using h.size, fun k hk hg => (Below.heap_setCell w ⟨g, 0, none⟩ u k hg).trans (h.block k hk hg)⟩
/-- the variable g holds a slice of a list -/
def HoldsL (base g : Nat) (L : List R3) (w : World) : Prop := ∃ ao cap, w.cell? ⟨g, 0, none⟩ = some (.slice ao L.length cap) ∧ w.frozen? ⟨g, 0, none⟩ = false ∧ w.ownsRow base 23 3 (.slice ao L.length cap) L.length (cells3 L)
def CutRet (base g : Nat) (L : List R3) (w : World) : Ending → World → Prop := fun e w' => e = .returned (.tuple #[]) ∧ HoldsL base g L w' ∧ Apart base g w w'
theorem holds_next {base g gg cap2 : Nat} {L : List R3} {lo hi st : Int} {dn : Bool} {w2 : World} {old : Value} (c : lo ≤ hi) (own2 : w2.ownsRow base 23 3 (.slice (some ⟨gg, 0, none⟩) (L.length + 1) cap2) (L.length + 1) (cells3 L ++ cells3 [nrm lo hi st dn]))
    (hg : g < base) (q0 : w2.cell? ⟨g, 0, none⟩ = some old) (q1 : w2.frozen? ⟨g, 0, none⟩ = false) : HoldsL base g (addP L lo hi st dn) (w2.setCell ⟨g, 0, none⟩ (.slice (some ⟨gg, 0, none⟩) (L.length + 1) cap2)) := by
  unfold addP
  rw [if_pos c]
  refine ⟨some ⟨gg, 0, none⟩, cap2, ?_, ?_, ?_⟩
  · rw [List.length_append]; simp [go_sem, q0]
  · simp [go_sem, q1]
  · rw [List.length_append, cells3_append]; exact ownsRow_setCell_below own2 hg _
set_option maxRecDepth 100000 in
set_option maxHeartbeats 3200000 in
theorem cut_any (lo hi st : Int) (dn : Bool) (L : List R3) (base g ba : Nat) (w : World) (hL : HoldsL base g L w) (hd : w.cell? ⟨ba, 3, none⟩ = some (.bool dn)) (hg : g < base) (hba : ba < base) (_hne : ba ≠ g) (hb : base ≤ w.heap.size) (hn : L.length ≤ 5000) (s1 : -4000000000000 ≤ st) (s2 : st ≤ 4000000000000) :
    Calls Try.prog 161 #[.int .i64 lo, .int .i64 hi, .int .i64 st, .pointer (some ⟨g, 0, none⟩), .pointer (some ⟨ba, 0, none⟩)] w (CutRet base g (addP L lo hi st dn) w) := by
  obtain ⟨ao, cap, hc, hf, hown⟩ := hL
  obtain ⟨i0, hi0, hz0, hz1, hz2⟩ := info_parts Try.infoRange
  have hl := cells3_length L
  have OWN := Lib.hid hown
  clear hown
  by_cases c : lo ≤ hi
  · have C := Lib.hid c
    go_enter Try.func161, Try.ntmps161
    go_upto_region 1 with fail
    clear c
    have z0 := Lib.hid hb
    go_region_law (first
      | (go_simp; go_at_call 105; refine (normal_any _ _ _ _ _ (by omega) (by omega)).mono ?_
         rintro e w1 ⟨rfl, hb1⟩
         have z1 : w.heap.size ≤ w1.heap.size := hb1.size
         have zg1 : g < w1.heap.size := by omega
         have hc1 : w1.cell? ⟨g, 0, none⟩ = some (.slice ao L.length cap) := (hb1.cell (p := ⟨g, 0, none⟩) (show g < w.heap.size by omega)).trans hc
         have hf1 : w1.frozen? ⟨g, 0, none⟩ = false := (hb1.frozen (p := ⟨g, 0, none⟩) (show g < w.heap.size by omega)).trans hf
         have hd1 : w1.cell? ⟨ba, 3, none⟩ = some (.bool dn) := (hb1.cell (p := ⟨ba, 3, none⟩) (show ba < w.heap.size by omega)).trans hd
         have HB1 : Hid (Below w.heap.size w w1) := Lib.hid ⟨hb1.os, hb1.tape, hb1.output, hb1.size, hb1.block⟩
         have OWN1 := Lib.hid (owns_below OWN.out HB1.out)
         clear hb1)
      | (refine step_append_lies _ rfl (.tmp 11) (.tmp 19) 40 rfl base 23 i0 (.agg #[.int .i64 0, .int .i64 0, .int .i64 0]) 3 24 Try.underlying40 hi0 hz0 hz1 hz2 rfl (by decide) _ L.length (cells3 L) (by simp [Act.eval]) (OWN1.out.alloc _) ⟨w1.heap.size, 0, none⟩ 1 1 (cells3 [nrm lo hi st dn]) (by simp [Act.eval]) rfl (World.news_of_block (cs := #[.int .i64 (nL lo hi), .int .i64 (nH lo hi), .int .i64 (nS lo hi st dn)]) (t := 23) (fr := (0, 0)) (heap_alloc_new w1 _)) (cells3_one _) (by omega) (by unfold maxLen; omega) (by omega) (by simp; omega) _ rfl ?_
         intro gg cap2 w2 own2 grow2 hat hlt
         have q0 : w2.cell? ⟨g, 0, none⟩ = some (.slice ao L.length cap) := (grow2.cell_far ⟨g, 0, none⟩ (by simp; omega) (fun e => by have h := (OWN1.out.lt _ e.symm).1; change base ≤ g at h; omega)).trans ((alloc_cell w1 _ (by simp; omega)).trans hc1)
         have q1 : w2.frozen? ⟨g, 0, none⟩ = false := (grow2.frozen_far ⟨g, 0, none⟩ (by simp; omega) (fun e => by have h := (OWN1.out.lt _ e.symm).1; change base ≤ g at h; omega)).trans ((alloc_frozen w1 _ (by simp; omega)).trans hf1)
         have OWN2 := Lib.hid own2
         have GROW2 := Lib.hid grow2
         clear own2 grow2 hat))
    all_goals go_wp2
    all_goals exact bodyPost_end (v := .tuple #[]) (by simp [results, Try.results161, go_sem]) rfl ⟨rfl, holds_next C.out OWN2.out hg q0 q1, (Apart.of_below (((HB1.out.mono hb).alloc (by omega) _).grown GROW2.out (by simp; omega) (fun k hk => (OWN1.out.lt k hk).1))).setCell _⟩
  · have E1 : Hid (addP L lo hi st dn = L) := Lib.hid (if_neg c)
    go_enter Try.func161, Try.ntmps161
    go_wp2
    rw [E1.out]
    exact bodyPost_end (v := .tuple #[]) (by simp [results, Try.results161, go_sem]) rfl ⟨rfl, ⟨ao, cap, hc, hf, OWN.out⟩, Apart.of_below (Below.refl _ _)⟩
end Go.Proofs.Ytmelknodmbdhpaa
namespace Go.Proofs.Ytmelknodmbdhpaa
open Go.RowKit
/-- how many pieces lie between numbers that are t apart, of a range with the step m -/
def subK (t m : Int) : Nat := ((t - 1) / m).toNat
/-- a list with the first k pieces between behind it -/
def midN (l h m t : Int) (dn : Bool) (L : List R3) : Nat → List R3
  | 0 => L
  | k + 1 => addP (midN l h m t dn L k) (l + ((k : Int) + 1) * m) (h - t + ((k : Int) + 1) * m) t dn
/-- the pieces of a range around another one -/
def subL (l1 h1 m l h t : Int) (dn : Bool) : List R3 := addP (midN l h m t dn (addP [] l1 (l - m) m dn) (subK t m)) (h + m) h1 m dn
theorem midN_mono (l h m t : Int) (dn : Bool) (L : List R3) (k : Nat) : ∀ j, (midN l h m t dn L k).length ≤ (midN l h m t dn L (k + j)).length
  | 0 => Nat.le_refl _
  | j + 1 => Nat.le_trans (midN_mono l h m t dn L k j) (addP_le _ _ _ _ _).1
theorem sub_exit {l1 h1 m l h t : Int} {dn : Bool} {k : Nat} (hk : k = subK t m ∨ 1000 < (midN l h m t dn (addP [] l1 (l - m) m dn) k).length) (hle : k ≤ subK t m) :
    (1000 < (addP (midN l h m t dn (addP [] l1 (l - m) m dn) k) (h + m) h1 m dn).length ∧ 1000 < (subL l1 h1 m l h t dn).length) ∨ addP (midN l h m t dn (addP [] l1 (l - m) m dn) k) (h + m) h1 m dn = subL l1 h1 m l h t dn := by
  rcases hk with rfl | hk
  · exact Or.inr rfl
  · left
    have a1 := (addP_le (midN l h m t dn (addP [] l1 (l - m) m dn) k) (h + m) h1 m dn).1
    have a2 := (addP_le (midN l h m t dn (addP [] l1 (l - m) m dn) (subK t m)) (h + m) h1 m dn).1
    have a3 := midN_mono l h m t dn (addP [] l1 (l - m) m dn) k (subK t m - k)
    rw [show k + (subK t m - k) = subK t m by omega] at a3
    unfold subL
    omega
theorem subK_more {t m : Int} {k : Nat} (hm : 1 ≤ m) (hc : ((k : Int) + 1) * m < t) : k < subK t m := by
  have : (k : Int) + 1 ≤ (t - 1) / m := (Int.le_ediv_iff_mul_le (by omega)).2 (by omega)
  unfold subK; omega
theorem subK_end {t m : Int} {k : Nat} (hm : 1 ≤ m) (ht : 1 ≤ t) (hk : k ≤ subK t m) (hc : ¬ ((k : Int) + 1) * m < t) : k = subK t m := by
  have : (t - 1) / m < (k : Int) + 1 := Int.ediv_lt_of_lt_mul (by omega) (by omega)
  have h0 : 0 ≤ (t - 1) / m := Int.ediv_nonneg (by omega) (by omega)
  unfold subK at *; omega
/-- what a difference of ranges returns, for the list of its pieces -/
def SubRet (L : List R3) (w : World) : Ending → World → Prop := fun e w' => ∃ (v : Value) (er : Int), e = .returned (.tuple #[v, .int .i64 er]) ∧ Below w.heap.size w w' ∧
  ((1000 < L.length ∧ v = .slice none 0 0 ∧ er = 7) ∨ (L.length ≤ 1000 ∧ er = 0 ∧ w'.ownsRow w.heap.size 23 3 v L.length (cells3 L)))
/-- without's blocks: both progressions, and the list so far -/
structure WSt (w : World) (l1 h1 m : Int) (dn : Bool) (l h t : Int) (dn2 : Bool) (L : List R3) (wx : World) : Prop where
  a0 : wx.cell? ⟨w.heap.size, 0, none⟩ = some (.int .i64 l1)
  a1 : wx.cell? ⟨w.heap.size, 1, none⟩ = some (.int .i64 h1)
  a2 : wx.cell? ⟨w.heap.size, 2, none⟩ = some (.int .i64 m)
  a3 : wx.cell? ⟨w.heap.size, 3, none⟩ = some (.bool dn)
  c0 : wx.cell? ⟨w.heap.size + 1, 0, none⟩ = some (.int .i64 l)
  c1 : wx.cell? ⟨w.heap.size + 1, 1, none⟩ = some (.int .i64 h)
  c2 : wx.cell? ⟨w.heap.size + 1, 2, none⟩ = some (.int .i64 t)
  size : w.heap.size + 3 ≤ wx.heap.size
  below : Below w.heap.size w wx
  holds : HoldsL (w.heap.size + 3) (w.heap.size + 1 + 1) L wx
theorem WSt.step {w : World} {l1 h1 m : Int} {dn : Bool} {l h t : Int} {dn2 : Bool} {L L' : List R3} {wx wy : World} (s : WSt w l1 h1 m dn l h t dn2 L wx) (hL : HoldsL (w.heap.size + 3) (w.heap.size + 1 + 1) L' wy) (ap : Apart (w.heap.size + 3) (w.heap.size + 1 + 1) wx wy) : WSt w l1 h1 m dn l h t dn2 L' wy :=
  ⟨(ap.cell (p := ⟨w.heap.size, 0, none⟩) (by simp) (by simp; omega)).trans s.a0, (ap.cell (p := ⟨w.heap.size, 1, none⟩) (by simp) (by simp; omega)).trans s.a1, (ap.cell (p := ⟨w.heap.size, 2, none⟩) (by simp) (by simp; omega)).trans s.a2, (ap.cell (p := ⟨w.heap.size, 3, none⟩) (by simp) (by simp; omega)).trans s.a3,
    (ap.cell (p := ⟨w.heap.size + 1, 0, none⟩) (by simp) (by simp)).trans s.c0, (ap.cell (p := ⟨w.heap.size + 1, 1, none⟩) (by simp) (by simp)).trans s.c1, (ap.cell (p := ⟨w.heap.size + 1, 2, none⟩) (by simp) (by simp)).trans s.c2,
    Nat.le_trans s.size ap.size, s.below.trans (ap.below (by omega) (by omega)), hL⟩
theorem WSt.cut {w : World} {l1 h1 m : Int} {dn : Bool} {l h t : Int} {dn2 : Bool} {L : List R3} {wx : World} (s : Hid (WSt w l1 h1 m dn l h t dn2 L wx)) (lo hi st : Int) (hn : L.length ≤ 5000) (s1 : -4000000000000 ≤ st) (s2 : st ≤ 4000000000000) :
    Calls Try.prog 161 #[.int .i64 lo, .int .i64 hi, .int .i64 st, .pointer (some ⟨w.heap.size + 1 + 1, 0, none⟩), .pointer (some ⟨w.heap.size, 0, none⟩)] wx fun e wy => e = .returned (.tuple #[]) ∧ Hid (WSt w l1 h1 m dn l h t dn2 (addP L lo hi st dn) wy) :=
  (cut_any lo hi st dn L (w.heap.size + 3) (w.heap.size + 1 + 1) w.heap.size wx s.out.holds s.out.a3 (by omega) (by omega) (by omega) s.out.size hn s1 s2).mono fun _ _ ⟨he, hL, ap⟩ => ⟨he, s.out.step hL ap⟩
theorem WSt.new {w : World} {l1 h1 m : Int} {dn : Bool} {l h t : Int} {dn2 : Bool} {ta tb tc : TypeId} : WSt w l1 h1 m dn l h t dn2 [] (((w.alloc (.cells #[.int .i64 l1, .int .i64 h1, .int .i64 m, .bool dn] ta)).alloc (.cells #[.int .i64 l, .int .i64 h, .int .i64 t, .bool dn2] tb)).alloc (.cells #[.slice none 0 0] tc)) := by
  constructor
  all_goals try (simp [go_sem]; done)
  · exact (((Below.refl _ _).alloc (Nat.le_refl _) _).alloc (by simp) _).alloc (by simp; omega) _
  · exact ⟨none, 0, by simp [go_sem], by simp [go_sem], World.ownsRow_nil _ _ _ _⟩
set_option maxRecDepth 100000 in
set_option maxHeartbeats 3200000 in
theorem without_any (l1 h1 m : Int) (dn : Bool) (l h t : Int) (dn2 : Bool) (w : World) (_a1 : -1000000 ≤ l1) (_a2 : l1 ≤ 1000000) (_a3 : -1000000 ≤ h1) (_a4 : h1 ≤ 1000000) (a5 : 1 ≤ m) (a6 : m ≤ 2000000) (c1 : -1000000 ≤ l) (c2 : l ≤ 1000000) (c3 : -1000000 ≤ h) (c4 : h ≤ 1000000) (c5 : 1 ≤ t) (c6 : t ≤ 2000000) :
    Calls Try.prog 129 #[.agg #[.int .i64 l1, .int .i64 h1, .int .i64 m, .bool dn], .agg #[.int .i64 l, .int .i64 h, .int .i64 t, .bool dn2]] w (SubRet (subL l1 h1 m l h t dn) w) := by
  have j1 : IntKind.i64.wrap (l - m) = l - m := IntWalk.i64_in _ (by omega)
  have j2 : IntKind.i64.wrap (h + m) = h + m := IntWalk.i64_in _ (by omega)
  have j3 : IntKind.i64.wrap (h - t) = h - t := IntWalk.i64_in _ (by omega)
  go_enter Try.func129, Try.ntmps129
  go_wp2_with fail
  refine (WSt.cut (l1 := l1) (h1 := h1) (m := m) (dn := dn) (l := l) (h := h) (t := t) (dn2 := dn2) (L := []) (Lib.hid WSt.new) _ _ _ (by simp) (by omega) (by omega)).mono ?_
  rintro e w1 ⟨rfl, S1⟩
  have x0 := S1.out.a0
  have y0 := S1.out.c0
  have x1 := S1.out.a1
  have y1 := S1.out.c1
  have x2 := S1.out.a2
  have y2 := S1.out.c2
  go_upto_block 0 with fail
  go_cut [8] (fun _ wx => ∃ k : Nat, ((k = subK t m ∨ 1000 < (midN l h m t dn (addP [] l1 (l - m) m dn) k).length) ∧ k ≤ subK t m ∧ (midN l h m t dn (addP [] l1 (l - m) m dn) k).length ≤ 1001) ∧ Hid (WSt w l1 h1 m dn l h t dn2 (midN l h m t dn (addP [] l1 (l - m) m dn) k) wx))
  case first =>
    go_wp2_with fail
    go_loopg [8] (subK t m + 1) (fun gh v8 wr => ∃ (k : Nat) (ah : Int), v8 = .int .i64 ah ∧ (Hid (ah = ((k : Int) + 1) * m) ∧ k ≤ subK t m ∧ subK t m - k < gh ∧ (midN l h m t dn (addP [] l1 (l - m) m dn) k).length ≤ 1001) ∧ Hid (WSt w l1 h1 m dn l h t dn2 (midN l h m t dn (addP [] l1 (l - m) m dn) k) wr))
    case atStart => exact ⟨0, m, rfl, ⟨Lib.hid (by simp), by omega, by omega, by have := (addP_le [] l1 (l - m) m dn).2; simp only [midN]; simp at this; omega⟩, S1⟩
    case round =>
      obtain ⟨k, ah, rfl, ⟨hah, k0, kg, kl⟩, S2⟩ := hrel
      have KG := Lib.hid kg
      have KL := Lib.hid kl
      have K0 := Lib.hid k0
      clear kg kl k0 x0 x1 x2 y0 y1 y2 S1
      have x0 := S2.out.a0
      have y0 := S2.out.c0
      have x1 := S2.out.a1
      have y1 := S2.out.c1
      have x2 := S2.out.a2
      have y2 := S2.out.c2
      obtain ⟨ao, cap, p0, p1, own⟩ := S2.out.holds
      clear own p1
      generalize hn : (midN l h m t dn (addP [] l1 (l - m) m dn) k).length = n at p0
      have HN := Lib.hid hn
      clear hn
      by_cases g1 : ah < t
      · by_cases g2 : (n : Int) ≤ 1000
        · have am : 1 ≤ ah := by
            have h1 : 0 ≤ (k : Int) * m := Int.mul_nonneg (by omega) (by omega)
            have := hah.out
            rw [Int.add_mul] at this
            omega
          have j4 : IntKind.i64.wrap (l + ah) = l + ah := IntWalk.i64_in _ (by omega)
          have j5 : IntKind.i64.wrap (h - t + ah) = h - t + ah := IntWalk.i64_in _ (by omega)
          have j6 : IntKind.i64.wrap (ah + m) = ah + m := IntWalk.i64_in _ (by omega)
          go_wp2_with fail
          refine (WSt.cut S2 _ _ _ (by have := KL.out; omega) (by omega) (by omega)).mono ?_
          rintro e w3 ⟨rfl, S3⟩
          clear p0 x0 x1 x2 y0 y1 y2
          have x0 := S3.out.a0
          have y0 := S3.out.c0
          have x1 := S3.out.a1
          have y1 := S3.out.c1
          have x2 := S3.out.a2
          have y2 := S3.out.c2
          go_wp2_with fail
          have kk := subK_more a5 (hah.out ▸ g1)
          go_roundg (subK t m - k)
          case measure => exact KG.out
          case rel =>
            refine ⟨k + 1, ah + m, rfl, ⟨Lib.hid ?_, kk, by omega, ?_⟩, ?_⟩
            · rw [hah.out]; simp only [Int.add_mul]; push_cast; simp only [Int.add_mul]; omega
            · have := (addP_le (midN l h m t dn (addP [] l1 (l - m) m dn) k) (l + ((k : Int) + 1) * m) (h - t + ((k : Int) + 1) * m) t dn).2
              have e2 := HN.out
              simp only [midN]
              omega
            · have e := S3.out
              rw [hah.out] at e
              exact e
        · go_wp2_with fail
          go_meet
          exact ⟨k, ⟨Or.inr (by have := HN.out; omega), K0.out, KL.out⟩, S2⟩
      · go_wp2_with fail
        go_meet
        exact ⟨k, ⟨Or.inl (subK_end a5 c5 K0.out (by rw [← hah.out]; omega)), K0.out, KL.out⟩, S2⟩
  case rest =>
    obtain ⟨k, ⟨hk, k0, kl⟩, S2⟩ := hcut
    have EX := Lib.hid (sub_exit (h1 := h1) hk k0)
    clear hk k0 x0 x1 x2 y0 y1 y2 S1
    have x0 := S2.out.a0
    have y0 := S2.out.c0
    have x1 := S2.out.a1
    have y1 := S2.out.c1
    have x2 := S2.out.a2
    have y2 := S2.out.c2
    go_wp2_with fail
    refine (WSt.cut S2 _ _ _ (by omega) (by omega) (by omega)).mono ?_
    rintro e w3 ⟨rfl, S3⟩
    clear x0 x1 x2 y0 y1 y2 kl
    generalize hL : addP (midN l h m t dn (addP [] l1 (l - m) m dn) k) (h + m) h1 m dn = LL at S3 EX
    obtain ⟨ao, cap, p0, p1, own⟩ := S3.out.holds
    have OWN := Lib.hid (owns_base own (show w.heap.size ≤ w.heap.size + 3 by omega))
    clear own p1 hL S2
    by_cases g2 : (1000 : Int) < LL.length
    · have hh : 1000 < (subL l1 h1 m l h t dn).length := by
        rcases EX.out with e | e
        · exact e.2
        · rw [← e]; omega
      have HH := Lib.hid hh
      clear hh
      go_wp2_with fail
      exact bodyPost_ret (v := .tuple #[.slice none 0 0, .int .i64 7]) (by simp [results, Try.results129, go_sem, *]) rfl ⟨_, _, rfl, S3.out.below, Or.inl ⟨HH.out, rfl, rfl⟩⟩
    · have hh : LL = subL l1 h1 m l h t dn := by
        rcases EX.out with e | e
        · omega
        · exact e
      have HH := Lib.hid hh
      clear hh EX
      have G2 := Lib.hid g2
      go_wp2_with fail
      refine bodyPost_ret (v := .tuple #[.slice ao LL.length cap, .int .i64 0]) (by simp [results, Try.results129, go_sem, *]) rfl ⟨_, _, rfl, S3.out.below, Or.inr ⟨?_, rfl, ?_⟩⟩
      · have := G2.out; rw [← HH.out]; omega
      · rw [← HH.out]; exact OWN.out
end Go.Proofs.Ytmelknodmbdhpaa
