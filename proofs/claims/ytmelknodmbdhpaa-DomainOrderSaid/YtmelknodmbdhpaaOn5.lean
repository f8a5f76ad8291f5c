/-
  Part 5: SubD, SubE, SubF, NumA, NumB, LawOf, LawOr.
-/
import Derived.Test.YtmelknodmbdhpaaOn2
import Derived.Test.YtmelknodmbdhpaaOn4
import Derived.BigQuiet
import Derived.Deep.CutBlock
import Derived.Deep.DeepCutAuto
import Derived.Deep.DrawnRows
import Derived.Deep.LoopGhost
import Derived.Deep.QuietTactic
import Derived.Deep.RegionHeld3
import Derived.Deep.RegionWith
import Derived.Lib.Hide
import Derived.LoopIn
import Derived.LoopNIn
import Derived.Maps.AppendAt
import Derived.OwnWalkIn
import Derived.RangeFuncBound
import Derived.RangeFuncBox
import Derived.RangeFuncCalls
import Derived.RangeFuncLeaves
import Derived.RangeFuncNested
import Derived.Shelf.Abstract
import Derived.TacticsInMore
import Derived.WalkKit
import Derived.WalkLawsBesides
import Derived.WalkSpells
namespace Go.Proofs.Ytmelknodmbdhpaa
open Go.RowKit
/-- Subtract's blocks: the two ranges, the first one's progression -/
structure SuS (w : World) (l1 h1 s1 l2 h2 s2 : Int) (gw : Nat) (w' : World) : Prop where
  below : Below w.heap.size w w'
  a : B3 w.heap.size (.int .i64 l1) (.int .i64 h1) (.int .i64 s1) w'
  b : B3 (w.heap.size + 1) (.int .i64 l2) (.int .i64 h2) (.int .i64 s2) w'
  p : Blk gw (.int .i64 l1) (.int .i64 h1) (.int .i64 (magA s1)) (.bool (decide (s1 < 0))) w'
theorem SuS.keep {w : World} {l1 h1 s1 l2 h2 s2 : Int} {gw : Nat} {w1 w2 : World} (h : SuS w l1 h1 s1 l2 h2 s2 gw w1) (hb : Below w1.heap.size w1 w2) : SuS w l1 h1 s1 l2 h2 s2 gw w2 :=
  ⟨h.below.trans (hb.mono h.below.size), h.a.keep hb, h.b.keep hb, h.p.keep hb⟩
theorem blk_other3 {g k : Nat} {a b c d : Value} {w : World} (h : Blk g a b c d w) (hne : g ≠ k) (a' b' c' : Value) : Blk g a b c d (set3 w k a' b' c') := by
  obtain ⟨s, c0, c1, c2, c3, f0, f1, f2, f3⟩ := h
  constructor
  · simp [set3, World.setCell]; exact s
  all_goals simp [set3, go_sem, *]
theorem SuS.store {w : World} {l1 h1 s1 l2 h2 s2 : Int} {gw : Nat} {w1 : World} (h : SuS w l1 h1 s1 l2 h2 s2 gw w1) {g : Nat} (_k1 : w.heap.size < g) (k2 : w.heap.size + 1 < g) (k3 : gw < g) (a b c : Value) : SuS w l1 h1 s1 l2 h2 s2 gw (set3 w1 g a b c) :=
  ⟨h.below.trans (set3s_below (by omega) _ _ _), h.a.other (by omega) _ _ _, h.b.other (by omega) _ _ _, blk_other3 h.p (by omega) _ _ _⟩
def SuP (w : World) (l1 h1 s1 l2 h2 s2 : Int) (gw : Nat) (w' : World) : Prop := w'.cell? ⟨gw, 0, none⟩ = some (.int .i64 l1) ∧ w'.cell? ⟨gw, 1, none⟩ = some (.int .i64 h1) ∧ w'.cell? ⟨gw, 2, none⟩ = some (.int .i64 (magA s1)) ∧ w'.cell? ⟨gw, 3, none⟩ = some (.bool (decide (s1 < 0))) ∧ w'.cell? ⟨w.heap.size + 1, 0, none⟩ = some (.int .i64 l2) ∧ w'.cell? ⟨w.heap.size + 1, 1, none⟩ = some (.int .i64 h2) ∧ w'.cell? ⟨w.heap.size + 1, 2, none⟩ = some (.int .i64 s2) ∧ SuS w l1 h1 s1 l2 h2 s2 gw w'
theorem SuS.all {w : World} {l1 h1 s1 l2 h2 s2 : Int} {gw : Nat} {w1 : World} (h : SuS w l1 h1 s1 l2 h2 s2 gw w1) : SuP w l1 h1 s1 l2 h2 s2 gw w1 :=
  ⟨h.p.c0, h.p.c1, h.p.c2, h.p.c3, h.b.c0, h.b.c1, h.b.c2, h⟩
/-- the numbers of both, as the intersection is told -/
def InterF (l1 h1 s1 l2 h2 s2 l h s : Int) : Prop := chk l h s = 0 ∧ (∀ n, RMem l h s n ↔ RMem l1 h1 s1 n ∧ RMem l2 h2 s2 n) ∧ (l < h → (s < 0 ↔ s1 < 0))
/-- the pieces of a range around what it has with another one -/
def subAll (l1 h1 s1 l h s : Int) : List R3 := if l ≤ h then subL l1 h1 (magA s1) l h (magA s) (decide (s1 < 0)) else if l1 ≤ h1 then [(l1, h1, s1)] else []
/-- what Subtract returns -/
def SubDir (l1 h1 s1 l2 h2 s2 : Int) (w : World) : Ending → World → Prop := fun e w' => ∃ l h s : Int, InterF l1 h1 s1 l2 h2 s2 l h s ∧ SubRet (subAll l1 h1 s1 l h s) w e w'
theorem res22 {w w1 : World} {t : TypeId} {a b c a' b' c' : Value} (hb : Below ((w.alloc (.cells #[a, b, c] t)).alloc (.cells #[a', b', c'] t)).heap.size ((w.alloc (.cells #[a, b, c] t)).alloc (.cells #[a', b', c'] t)) w1) :
    Below w.heap.size w w1 ∧ B3 w.heap.size a b c w1 ∧ B3 (w.heap.size + 1) a' b' c' w1 := by
  have n0 := B3.new a b c t w
  have n1 := B3.new a' b' c' t (w.alloc (.cells #[a, b, c] t))
  have m0 := n0.keep (w1 := (w.alloc (.cells #[a, b, c] t)).alloc (.cells #[a', b', c'] t)) (below_new _ _)
  have e1 : (w.alloc (.cells #[a, b, c] t)).heap.size = w.heap.size + 1 := by simp
  rw [e1] at n1
  exact ⟨(((Below.refl _ _).alloc (Nat.le_refl _) _).alloc (by simp) _).trans (hb.mono (by simp; omega)), m0.keep hb, n1.keep hb⟩
set_option maxRecDepth 100000 in
set_option maxHeartbeats 6400000 in
theorem Subtract_ok (l1 h1 s1 l2 h2 s2 : Int) (w : World) (hA : Hid (chk l1 h1 s1 = 0)) (hB : Hid (chk l2 h2 s2 = 0)) :
    Calls Try.prog 45 #[.agg #[.int .i64 l1, .int .i64 h1, .int .i64 s1], .agg #[.int .i64 l2, .int .i64 h2, .int .i64 s2]] w (SubDir l1 h1 s1 l2 h2 s2 w) := by
  have bA := chk_bounds hA.out
  have bB := chk_bounds hB.out
  go_enter Try.func45, Try.ntmps45
  go_wp2_with fail
  refine (checkBoth_ok _ _ _ _ _ _ _ hA hB).mono ?_
  rintro e w1 ⟨rfl, hb1⟩
  have R1 := Lib.hid (res22 hb1)
  clear hb1
  have x0 := R1.out.2.1.c0
  have x1 := R1.out.2.1.c1
  have x2 := R1.out.2.1.c2
  go_wp2_with fail
  refine (Size_any _ _ _ _ ⟨by omega, by omega⟩ ⟨by omega, by omega⟩ ⟨by omega, by omega⟩).mono ?_
  rintro e w2 ⟨rfl, hb2⟩
  have W2 := Lib.hid (R1.out.1.trans (hb2.mono R1.out.1.size))
  have A2 := Lib.hid (R1.out.2.1.keep hb2)
  have B2 := Lib.hid (R1.out.2.2.keep hb2)
  clear hb2 R1 x0 x1 x2
  by_cases ca : l1 ≤ h1
  · have sa := size_num hA.out ca
    have za : (siz l1 h1 s1 == 0) = false := by simp; omega
    generalize siz l1 h1 s1 = zz at za ⊢
    have x0 := A2.out.c0
    have x1 := A2.out.c1
    have x2 := A2.out.c2
    have CA := Lib.hid ca
    clear sa ca
    go_wp2_with fail
    refine (open_any _ _ _ _ (by omega) (by omega)).mono ?_
    rintro e w3 ⟨rfl, hb3⟩
    have hb3 : Below w2.heap.size w2 w3 := ⟨hb3.os, hb3.tape, hb3.output, hb3.size, hb3.block⟩
    have S3 : Hid (SuS w l1 h1 s1 l2 h2 s2 w3.heap.size (w3.alloc (.cells #[.int .i64 l1, .int .i64 h1, .int .i64 (magA s1), .bool (decide (s1 < 0))] 102))) := Lib.hid
      ⟨(W2.out.trans (hb3.mono W2.out.size)).trans ((below_new _ _).mono (Nat.le_trans W2.out.size hb3.size)), (A2.out.keep hb3).keep (below_new _ _), (B2.out.keep hb3).keep (below_new _ _), Blk.new _ _ _ _ _ _⟩
    clear hb3 x0 x1 x2 W2 A2 B2
    go_upto_region 7 with fail
    generalize w3.heap.size = gw at *
    generalize w3.alloc (.cells #[.int .i64 l1, .int .i64 h1, .int .i64 (magA s1), .bool (decide (s1 < 0))] 102) = w5 at *
    have HS : SuP w l1 h1 s1 l2 h2 s2 gw w5.drew := (S3.out.keep (show Below w5.heap.size w5 w5.drew from (Below.refl _ _).drew)).all
    go_cut [8] (fun s8 wx => ∃ (g : Nat) (l h s : Int), s8 = .pointer (some ⟨g, 0, none⟩) ∧ InterF l1 h1 s1 l2 h2 s2 l h s ∧ B3 g (.int .i64 l) (.int .i64 h) (.int .i64 s) wx ∧ SuS w l1 h1 s1 l2 h2 s2 gw wx)
    case first =>
      refine wp_region_held_drew (S := (fun w' => w'.cell? ⟨gw, 0, none⟩ = some (.int .i64 l1) ∧ w'.cell? ⟨gw, 1, none⟩ = some (.int .i64 h1) ∧ w'.cell? ⟨gw, 2, none⟩ = some (.int .i64 (magA s1)) ∧ w'.cell? ⟨gw, 3, none⟩ = some (.bool (decide (s1 < 0))) ∧ w'.cell? ⟨w.heap.size + 1, 0, none⟩ = some (.int .i64 l2) ∧ w'.cell? ⟨w.heap.size + 1, 1, none⟩ = some (.int .i64 h2) ∧ w'.cell? ⟨w.heap.size + 1, 2, none⟩ = some (.int .i64 s2) ∧ SuS w l1 h1 s1 l2 h2 s2 gw w')) (by kernel_rfl) HS (fun hHeld => ?_)
      obtain ⟨v0, hv0⟩ : ∃ v0, v0 = w5.drew := ⟨_, rfl⟩
      rw [← hv0] at hHeld ⊢
      clear hv0
      refine wpAnyH_take (i := 0) (oi := { dst := some 20, op := Op.load 102 (Operand.tmp 7), type := 102, pos := "sets.go:25", after := #[], guard := none }) (v := ?_) rfl (by kernel_rfl) (by kernel_rfl) (by kernel_rfl) (fun _ _ _ h => h) (Or.inl ⟨by rfl, ?_⟩) (by assumption) ?_
      rotate_left
      · (intro w hSw; (try dsimp only at hSw); go_simp; first | done | with_reducible rfl)
      try simp only [Act.put, List.setIfInBounds_toArray, List.set_cons_zero, List.set_cons_succ]
      refine wpAnyH_take (i := 1) (oi := { dst := some 21, op := Op.load 23 (Operand.tmp 3), type := 23, pos := "sets.go:25", after := #[], guard := none }) (v := ?_) rfl (by kernel_rfl) (by kernel_rfl) (by kernel_rfl) (fun _ _ _ h => h) (Or.inl ⟨by rfl, ?_⟩) (by assumption) ?_
      rotate_left
      · (intro w hSw; (try dsimp only at hSw); go_simp; first | done | with_reducible rfl)
      try simp only [Act.put, List.setIfInBounds_toArray, List.set_cons_zero, List.set_cons_succ]
      refine wpAnyH_ready (rs := [2, 5]) (by kernel_rfl) (by simp) ?_
      refine AllReadyH.cons (o := { dst := some 22, op := Op.call { callee := Callee.value (Operand.func 109), args := #[Operand.tmp 21], argTypes := #[23] }, type := 102, pos := "sets.go:25", after := #[{ on := 1, ground := Ground.data }], guard := none }) rfl (fun K hK => ?_) ?_
      · go_simp
        refine (open_any _ _ _ _ (by omega) (by omega)).mono ?_
        rintro e v1 ⟨rfl, hb⟩
        have hb : Below v0.heap.size v0 v1 := ⟨hb.os, hb.tape, hb.output, hb.size, hb.block⟩
        have hS := SuS.all (hHeld.2.2.2.2.2.2.2.keep hb)
        go_wp2_with fail
        refine hK.out _ _ hS (fun hHeld => ?_)
        clear hK K hb hHeld
        have hHeld := hS
        clear hS
        try simp only [Act.put, List.setIfInBounds_toArray, List.set_cons_zero, List.set_cons_succ]
        refine wpAnyH_ready (rs := [3, 5]) (by kernel_rfl) (by simp) ?_
        refine AllReadyH.cons (o := { dst := some 23, op := Op.call { callee := Callee.value (Operand.func 127), args := #[Operand.tmp 20, Operand.tmp 22], argTypes := #[102, 102] }, type := 102, pos := "sets.go:25", after := #[{ on := 0, ground := Ground.data }, { on := 2, ground := Ground.data }, { on := 2, ground := Ground.chain }], guard := none }) rfl (fun K hK => ?_) ?_
        · go_simp
          refine (common_dir _ _ _ _ _ _ _ _ _ bA.1 bA.2.1 bA.2.2.1 bA.2.2.2.1 bA.2.2.2.2.2.2.1 bA.2.2.2.2.2.2.2 bB.1 bB.2.1 bB.2.2.1 bB.2.2.2.1 bB.2.2.2.2.2.2.1 bB.2.2.2.2.2.2.2).mono ?_
          rintro e v2 ⟨L, H, S, dn, hC, rfl, hb⟩
          have HC := Lib.hid hC
          have cS1 := hC.1.1
          have cS2 := hC.1.2.1
          clear hC
          have hb : Below v1.heap.size v1 v2 := ⟨hb.os, hb.tape, hb.output, hb.size, hb.block⟩
          have hS := SuS.all (hHeld.2.2.2.2.2.2.2.keep hb)
          go_wp2_with fail
          refine hK.out _ _ hS (fun hHeld => ?_)
          clear hK K hb hHeld
          have hHeld := hS
          clear hS
          try simp only [Act.put, List.setIfInBounds_toArray, List.set_cons_zero, List.set_cons_succ]
          refine wpAnyH_ready (rs := [4, 5]) (by kernel_rfl) (by simp) ?_
          refine AllReadyH.cons (o := { dst := some 24, op := Op.call { callee := Callee.value (Operand.func 105), args := #[Operand.tmp 23], argTypes := #[102] }, type := 23, pos := "sets.go:25", after := #[{ on := 3, ground := Ground.data }, { on := 3, ground := Ground.chain }], guard := none }) rfl (fun K hK => ?_) ?_
          · go_simp
            refine (normal_any _ _ _ _ _ (by omega) (by omega)).mono ?_
            rintro e v3 ⟨rfl, hb⟩
            have hb : Below v2.heap.size v2 v3 := ⟨hb.os, hb.tape, hb.output, hb.size, hb.block⟩
            have hS := SuS.all (hHeld.2.2.2.2.2.2.2.keep hb)
            go_wp2_with fail
            refine hK.out _ _ hS (fun hHeld => ?_)
            clear hK K hb hHeld
            have hHeld := hS
            clear hS
            try simp only [Act.put, List.setIfInBounds_toArray, List.set_cons_zero, List.set_cons_succ]
            refine wpAnyH_ready (rs := [5]) (by kernel_rfl) (by simp) ?_
            refine AllReadyH.cons (o := { dst := some 8, op := Op.alloc 23, type := 0, pos := "sets.go:25", after := #[], guard := none }) rfl (fun K hK => ?_) ?_
            · go_simp
              have hb := below_new v3 (.cells #[.int .i64 0, .int .i64 0, .int .i64 0] 23)
              have BC := B3.new (.int .i64 0) (.int .i64 0) (.int .i64 0) 23 v3
              have KC : gw < v3.heap.size ∧ w.heap.size + 1 < v3.heap.size := ⟨hHeld.2.2.2.2.2.2.2.p.size, hHeld.2.2.2.2.2.2.2.b.size⟩
              have hS := SuS.all (hHeld.2.2.2.2.2.2.2.keep hb)
              refine hK.out _ _ hS (fun hHeld => ?_)
              clear hK K hb hHeld
              generalize v3.alloc (.cells #[.int .i64 0, .int .i64 0, .int .i64 0] 23) = v4 at *
              have hHeld := hS
              clear hS
              try simp only [Act.put, List.setIfInBounds_toArray, List.set_cons_zero, List.set_cons_succ]
              refine wpAnyH_ready (rs := [6]) (by kernel_rfl) (by simp) ?_
              refine AllReadyH.cons (o := { dst := none, op := Op.store 23 (Operand.tmp 8) (Operand.tmp 24), type := 0, pos := "sets.go:25", after := #[{ on := 5, ground := Ground.data }, { on := 4, ground := Ground.data }, { on := 4, ground := Ground.chain }, { on := 0, ground := Ground.phase }, { on := 1, ground := Ground.phase }, { on := 2, ground := Ground.phase }, { on := 3, ground := Ground.phase }, { on := 4, ground := Ground.phase }, { on := 5, ground := Ground.phase }], guard := none }) rfl (fun K hK => ?_) ?_
              · have c0 := BC.c0
                have c1 := BC.c1
                have c2 := BC.c2
                have f0 := BC.f0
                have f1 := BC.f1
                have f2 := BC.f2
                go_simp
                have hS := SuS.all (hHeld.2.2.2.2.2.2.2.store (g := v3.heap.size) (by omega) (by omega) (by omega) (.int .i64 (nL L H)) (.int .i64 (nH L H)) (.int .i64 (nS L H S dn)))
                have BC := BC.set (.int .i64 (nL L H)) (.int .i64 (nH L H)) (.int .i64 (nS L H S dn))
                refine hK.out _ _ hS (fun hHeld => ?_)
                clear hK K c0 c1 c2 f0 f1 f2 hHeld
                change wpAnyH _ _ _ _ _ _ _ _ (set3 v4 (v3.heap.size) (.int .i64 (nL L H)) (.int .i64 (nH L H)) (.int .i64 (nS L H S dn)))
                generalize set3 v4 (v3.heap.size) (.int .i64 (nL L H)) (.int .i64 (nH L H)) (.int .i64 (nS L H S dn)) = v5 at *
                have hHeld := hS
                clear hS
                try simp only [Act.put, List.setIfInBounds_toArray, List.set_cons_zero, List.set_cons_succ]
                refine wpAnyH_done (by kernel_rfl) ?_ _
                go_wp2_with fail
                go_meet
                exact ⟨v3.heap.size, _, _, _, rfl, ⟨(inter_norm hA.out hB.out HC.out.1).1, (inter_norm hA.out hB.out HC.out.1).2, nS_dir cS1 HC.out.2⟩, BC, hHeld.2.2.2.2.2.2.2⟩
              exact AllReadyH.nil
            exact AllReadyH.nil
          refine AllReadyH.cons (o := { dst := some 8, op := Op.alloc 23, type := 0, pos := "sets.go:25", after := #[], guard := none }) rfl (fun K hK => ?_) ?_
          · go_simp
            have hb := below_new v2 (.cells #[.int .i64 0, .int .i64 0, .int .i64 0] 23)
            have BC := B3.new (.int .i64 0) (.int .i64 0) (.int .i64 0) 23 v2
            have KC : gw < v2.heap.size ∧ w.heap.size + 1 < v2.heap.size := ⟨hHeld.2.2.2.2.2.2.2.p.size, hHeld.2.2.2.2.2.2.2.b.size⟩
            have hS := SuS.all (hHeld.2.2.2.2.2.2.2.keep hb)
            refine hK.out _ _ hS (fun hHeld => ?_)
            clear hK K hb hHeld
            generalize v2.alloc (.cells #[.int .i64 0, .int .i64 0, .int .i64 0] 23) = v3 at *
            have hHeld := hS
            clear hS
            try simp only [Act.put, List.setIfInBounds_toArray, List.set_cons_zero, List.set_cons_succ]
            refine wpAnyH_ready (rs := [4]) (by kernel_rfl) (by simp) ?_
            refine AllReadyH.cons (o := { dst := some 24, op := Op.call { callee := Callee.value (Operand.func 105), args := #[Operand.tmp 23], argTypes := #[102] }, type := 23, pos := "sets.go:25", after := #[{ on := 3, ground := Ground.data }, { on := 3, ground := Ground.chain }], guard := none }) rfl (fun K hK => ?_) ?_
            · go_simp
              refine (normal_any _ _ _ _ _ (by omega) (by omega)).mono ?_
              rintro e v4 ⟨rfl, hb⟩
              have hb : Below v3.heap.size v3 v4 := ⟨hb.os, hb.tape, hb.output, hb.size, hb.block⟩
              have hS := SuS.all (hHeld.2.2.2.2.2.2.2.keep hb)
              have BC := BC.keep hb
              go_wp2_with fail
              refine hK.out _ _ hS (fun hHeld => ?_)
              clear hK K hb hHeld
              have hHeld := hS
              clear hS
              try simp only [Act.put, List.setIfInBounds_toArray, List.set_cons_zero, List.set_cons_succ]
              refine wpAnyH_ready (rs := [6]) (by kernel_rfl) (by simp) ?_
              refine AllReadyH.cons (o := { dst := none, op := Op.store 23 (Operand.tmp 8) (Operand.tmp 24), type := 0, pos := "sets.go:25", after := #[{ on := 5, ground := Ground.data }, { on := 4, ground := Ground.data }, { on := 4, ground := Ground.chain }, { on := 0, ground := Ground.phase }, { on := 1, ground := Ground.phase }, { on := 2, ground := Ground.phase }, { on := 3, ground := Ground.phase }, { on := 4, ground := Ground.phase }, { on := 5, ground := Ground.phase }], guard := none }) rfl (fun K hK => ?_) ?_
              · have c0 := BC.c0
                have c1 := BC.c1
                have c2 := BC.c2
                have f0 := BC.f0
                have f1 := BC.f1
                have f2 := BC.f2
                go_simp
                have hS := SuS.all (hHeld.2.2.2.2.2.2.2.store (g := v2.heap.size) (by omega) (by omega) (by omega) (.int .i64 (nL L H)) (.int .i64 (nH L H)) (.int .i64 (nS L H S dn)))
                have BC := BC.set (.int .i64 (nL L H)) (.int .i64 (nH L H)) (.int .i64 (nS L H S dn))
                refine hK.out _ _ hS (fun hHeld => ?_)
                clear hK K c0 c1 c2 f0 f1 f2 hHeld
                change wpAnyH _ _ _ _ _ _ _ _ (set3 v4 (v2.heap.size) (.int .i64 (nL L H)) (.int .i64 (nH L H)) (.int .i64 (nS L H S dn)))
                generalize set3 v4 (v2.heap.size) (.int .i64 (nL L H)) (.int .i64 (nH L H)) (.int .i64 (nS L H S dn)) = v5 at *
                have hHeld := hS
                clear hS
                try simp only [Act.put, List.setIfInBounds_toArray, List.set_cons_zero, List.set_cons_succ]
                refine wpAnyH_done (by kernel_rfl) ?_ _
                go_wp2_with fail
                go_meet
                exact ⟨v2.heap.size, _, _, _, rfl, ⟨(inter_norm hA.out hB.out HC.out.1).1, (inter_norm hA.out hB.out HC.out.1).2, nS_dir cS1 HC.out.2⟩, BC, hHeld.2.2.2.2.2.2.2⟩
              exact AllReadyH.nil
            exact AllReadyH.nil
          exact AllReadyH.nil
        refine AllReadyH.cons (o := { dst := some 8, op := Op.alloc 23, type := 0, pos := "sets.go:25", after := #[], guard := none }) rfl (fun K hK => ?_) ?_
        · go_simp
          have hb := below_new v1 (.cells #[.int .i64 0, .int .i64 0, .int .i64 0] 23)
          have BC := B3.new (.int .i64 0) (.int .i64 0) (.int .i64 0) 23 v1
          have KC : gw < v1.heap.size ∧ w.heap.size + 1 < v1.heap.size := ⟨hHeld.2.2.2.2.2.2.2.p.size, hHeld.2.2.2.2.2.2.2.b.size⟩
          have hS := SuS.all (hHeld.2.2.2.2.2.2.2.keep hb)
          refine hK.out _ _ hS (fun hHeld => ?_)
          clear hK K hb hHeld
          generalize v1.alloc (.cells #[.int .i64 0, .int .i64 0, .int .i64 0] 23) = v2 at *
          have hHeld := hS
          clear hS
          try simp only [Act.put, List.setIfInBounds_toArray, List.set_cons_zero, List.set_cons_succ]
          refine wpAnyH_ready (rs := [3]) (by kernel_rfl) (by simp) ?_
          refine AllReadyH.cons (o := { dst := some 23, op := Op.call { callee := Callee.value (Operand.func 127), args := #[Operand.tmp 20, Operand.tmp 22], argTypes := #[102, 102] }, type := 102, pos := "sets.go:25", after := #[{ on := 0, ground := Ground.data }, { on := 2, ground := Ground.data }, { on := 2, ground := Ground.chain }], guard := none }) rfl (fun K hK => ?_) ?_
          · go_simp
            refine (common_dir _ _ _ _ _ _ _ _ _ bA.1 bA.2.1 bA.2.2.1 bA.2.2.2.1 bA.2.2.2.2.2.2.1 bA.2.2.2.2.2.2.2 bB.1 bB.2.1 bB.2.2.1 bB.2.2.2.1 bB.2.2.2.2.2.2.1 bB.2.2.2.2.2.2.2).mono ?_
            rintro e v3 ⟨L, H, S, dn, hC, rfl, hb⟩
            have HC := Lib.hid hC
            have cS1 := hC.1.1
            have cS2 := hC.1.2.1
            clear hC
            have hb : Below v2.heap.size v2 v3 := ⟨hb.os, hb.tape, hb.output, hb.size, hb.block⟩
            have hS := SuS.all (hHeld.2.2.2.2.2.2.2.keep hb)
            have BC := BC.keep hb
            go_wp2_with fail
            refine hK.out _ _ hS (fun hHeld => ?_)
            clear hK K hb hHeld
            have hHeld := hS
            clear hS
            try simp only [Act.put, List.setIfInBounds_toArray, List.set_cons_zero, List.set_cons_succ]
            refine wpAnyH_ready (rs := [4]) (by kernel_rfl) (by simp) ?_
            refine AllReadyH.cons (o := { dst := some 24, op := Op.call { callee := Callee.value (Operand.func 105), args := #[Operand.tmp 23], argTypes := #[102] }, type := 23, pos := "sets.go:25", after := #[{ on := 3, ground := Ground.data }, { on := 3, ground := Ground.chain }], guard := none }) rfl (fun K hK => ?_) ?_
            · go_simp
              refine (normal_any _ _ _ _ _ (by omega) (by omega)).mono ?_
              rintro e v4 ⟨rfl, hb⟩
              have hb : Below v3.heap.size v3 v4 := ⟨hb.os, hb.tape, hb.output, hb.size, hb.block⟩
              have hS := SuS.all (hHeld.2.2.2.2.2.2.2.keep hb)
              have BC := BC.keep hb
              go_wp2_with fail
              refine hK.out _ _ hS (fun hHeld => ?_)
              clear hK K hb hHeld
              have hHeld := hS
              clear hS
              try simp only [Act.put, List.setIfInBounds_toArray, List.set_cons_zero, List.set_cons_succ]
              refine wpAnyH_ready (rs := [6]) (by kernel_rfl) (by simp) ?_
              refine AllReadyH.cons (o := { dst := none, op := Op.store 23 (Operand.tmp 8) (Operand.tmp 24), type := 0, pos := "sets.go:25", after := #[{ on := 5, ground := Ground.data }, { on := 4, ground := Ground.data }, { on := 4, ground := Ground.chain }, { on := 0, ground := Ground.phase }, { on := 1, ground := Ground.phase }, { on := 2, ground := Ground.phase }, { on := 3, ground := Ground.phase }, { on := 4, ground := Ground.phase }, { on := 5, ground := Ground.phase }], guard := none }) rfl (fun K hK => ?_) ?_
              · have c0 := BC.c0
                have c1 := BC.c1
                have c2 := BC.c2
                have f0 := BC.f0
                have f1 := BC.f1
                have f2 := BC.f2
                go_simp
                have hS := SuS.all (hHeld.2.2.2.2.2.2.2.store (g := v1.heap.size) (by omega) (by omega) (by omega) (.int .i64 (nL L H)) (.int .i64 (nH L H)) (.int .i64 (nS L H S dn)))
                have BC := BC.set (.int .i64 (nL L H)) (.int .i64 (nH L H)) (.int .i64 (nS L H S dn))
                refine hK.out _ _ hS (fun hHeld => ?_)
                clear hK K c0 c1 c2 f0 f1 f2 hHeld
                change wpAnyH _ _ _ _ _ _ _ _ (set3 v4 (v1.heap.size) (.int .i64 (nL L H)) (.int .i64 (nH L H)) (.int .i64 (nS L H S dn)))
                generalize set3 v4 (v1.heap.size) (.int .i64 (nL L H)) (.int .i64 (nH L H)) (.int .i64 (nS L H S dn)) = v5 at *
                have hHeld := hS
                clear hS
                try simp only [Act.put, List.setIfInBounds_toArray, List.set_cons_zero, List.set_cons_succ]
                refine wpAnyH_done (by kernel_rfl) ?_ _
                go_wp2_with fail
                go_meet
                exact ⟨v1.heap.size, _, _, _, rfl, ⟨(inter_norm hA.out hB.out HC.out.1).1, (inter_norm hA.out hB.out HC.out.1).2, nS_dir cS1 HC.out.2⟩, BC, hHeld.2.2.2.2.2.2.2⟩
              exact AllReadyH.nil
            exact AllReadyH.nil
          exact AllReadyH.nil
        exact AllReadyH.nil
      refine AllReadyH.cons (o := { dst := some 8, op := Op.alloc 23, type := 0, pos := "sets.go:25", after := #[], guard := none }) rfl (fun K hK => ?_) ?_
      · go_simp
        have hb := below_new v0 (.cells #[.int .i64 0, .int .i64 0, .int .i64 0] 23)
        have BC := B3.new (.int .i64 0) (.int .i64 0) (.int .i64 0) 23 v0
        have KC : gw < v0.heap.size ∧ w.heap.size + 1 < v0.heap.size := ⟨hHeld.2.2.2.2.2.2.2.p.size, hHeld.2.2.2.2.2.2.2.b.size⟩
        have hS := SuS.all (hHeld.2.2.2.2.2.2.2.keep hb)
        refine hK.out _ _ hS (fun hHeld => ?_)
        clear hK K hb hHeld
        generalize v0.alloc (.cells #[.int .i64 0, .int .i64 0, .int .i64 0] 23) = v1 at *
        have hHeld := hS
        clear hS
        try simp only [Act.put, List.setIfInBounds_toArray, List.set_cons_zero, List.set_cons_succ]
        refine wpAnyH_ready (rs := [2]) (by kernel_rfl) (by simp) ?_
        refine AllReadyH.cons (o := { dst := some 22, op := Op.call { callee := Callee.value (Operand.func 109), args := #[Operand.tmp 21], argTypes := #[23] }, type := 102, pos := "sets.go:25", after := #[{ on := 1, ground := Ground.data }], guard := none }) rfl (fun K hK => ?_) ?_
        · go_simp
          refine (open_any _ _ _ _ (by omega) (by omega)).mono ?_
          rintro e v2 ⟨rfl, hb⟩
          have hb : Below v1.heap.size v1 v2 := ⟨hb.os, hb.tape, hb.output, hb.size, hb.block⟩
          have hS := SuS.all (hHeld.2.2.2.2.2.2.2.keep hb)
          have BC := BC.keep hb
          go_wp2_with fail
          refine hK.out _ _ hS (fun hHeld => ?_)
          clear hK K hb hHeld
          have hHeld := hS
          clear hS
          try simp only [Act.put, List.setIfInBounds_toArray, List.set_cons_zero, List.set_cons_succ]
          refine wpAnyH_ready (rs := [3]) (by kernel_rfl) (by simp) ?_
          refine AllReadyH.cons (o := { dst := some 23, op := Op.call { callee := Callee.value (Operand.func 127), args := #[Operand.tmp 20, Operand.tmp 22], argTypes := #[102, 102] }, type := 102, pos := "sets.go:25", after := #[{ on := 0, ground := Ground.data }, { on := 2, ground := Ground.data }, { on := 2, ground := Ground.chain }], guard := none }) rfl (fun K hK => ?_) ?_
          · go_simp
            refine (common_dir _ _ _ _ _ _ _ _ _ bA.1 bA.2.1 bA.2.2.1 bA.2.2.2.1 bA.2.2.2.2.2.2.1 bA.2.2.2.2.2.2.2 bB.1 bB.2.1 bB.2.2.1 bB.2.2.2.1 bB.2.2.2.2.2.2.1 bB.2.2.2.2.2.2.2).mono ?_
            rintro e v3 ⟨L, H, S, dn, hC, rfl, hb⟩
            have HC := Lib.hid hC
            have cS1 := hC.1.1
            have cS2 := hC.1.2.1
            clear hC
            have hb : Below v2.heap.size v2 v3 := ⟨hb.os, hb.tape, hb.output, hb.size, hb.block⟩
            have hS := SuS.all (hHeld.2.2.2.2.2.2.2.keep hb)
            have BC := BC.keep hb
            go_wp2_with fail
            refine hK.out _ _ hS (fun hHeld => ?_)
            clear hK K hb hHeld
            have hHeld := hS
            clear hS
            try simp only [Act.put, List.setIfInBounds_toArray, List.set_cons_zero, List.set_cons_succ]
            refine wpAnyH_ready (rs := [4]) (by kernel_rfl) (by simp) ?_
            refine AllReadyH.cons (o := { dst := some 24, op := Op.call { callee := Callee.value (Operand.func 105), args := #[Operand.tmp 23], argTypes := #[102] }, type := 23, pos := "sets.go:25", after := #[{ on := 3, ground := Ground.data }, { on := 3, ground := Ground.chain }], guard := none }) rfl (fun K hK => ?_) ?_
            · go_simp
              refine (normal_any _ _ _ _ _ (by omega) (by omega)).mono ?_
              rintro e v4 ⟨rfl, hb⟩
              have hb : Below v3.heap.size v3 v4 := ⟨hb.os, hb.tape, hb.output, hb.size, hb.block⟩
              have hS := SuS.all (hHeld.2.2.2.2.2.2.2.keep hb)
              have BC := BC.keep hb
              go_wp2_with fail
              refine hK.out _ _ hS (fun hHeld => ?_)
              clear hK K hb hHeld
              have hHeld := hS
              clear hS
              try simp only [Act.put, List.setIfInBounds_toArray, List.set_cons_zero, List.set_cons_succ]
              refine wpAnyH_ready (rs := [6]) (by kernel_rfl) (by simp) ?_
              refine AllReadyH.cons (o := { dst := none, op := Op.store 23 (Operand.tmp 8) (Operand.tmp 24), type := 0, pos := "sets.go:25", after := #[{ on := 5, ground := Ground.data }, { on := 4, ground := Ground.data }, { on := 4, ground := Ground.chain }, { on := 0, ground := Ground.phase }, { on := 1, ground := Ground.phase }, { on := 2, ground := Ground.phase }, { on := 3, ground := Ground.phase }, { on := 4, ground := Ground.phase }, { on := 5, ground := Ground.phase }], guard := none }) rfl (fun K hK => ?_) ?_
              · have c0 := BC.c0
                have c1 := BC.c1
                have c2 := BC.c2
                have f0 := BC.f0
                have f1 := BC.f1
                have f2 := BC.f2
                go_simp
                have hS := SuS.all (hHeld.2.2.2.2.2.2.2.store (g := v0.heap.size) (by omega) (by omega) (by omega) (.int .i64 (nL L H)) (.int .i64 (nH L H)) (.int .i64 (nS L H S dn)))
                have BC := BC.set (.int .i64 (nL L H)) (.int .i64 (nH L H)) (.int .i64 (nS L H S dn))
                refine hK.out _ _ hS (fun hHeld => ?_)
                clear hK K c0 c1 c2 f0 f1 f2 hHeld
                change wpAnyH _ _ _ _ _ _ _ _ (set3 v4 (v0.heap.size) (.int .i64 (nL L H)) (.int .i64 (nH L H)) (.int .i64 (nS L H S dn)))
                generalize set3 v4 (v0.heap.size) (.int .i64 (nL L H)) (.int .i64 (nH L H)) (.int .i64 (nS L H S dn)) = v5 at *
                have hHeld := hS
                clear hS
                try simp only [Act.put, List.setIfInBounds_toArray, List.set_cons_zero, List.set_cons_succ]
                refine wpAnyH_done (by kernel_rfl) ?_ _
                go_wp2_with fail
                go_meet
                exact ⟨v0.heap.size, _, _, _, rfl, ⟨(inter_norm hA.out hB.out HC.out.1).1, (inter_norm hA.out hB.out HC.out.1).2, nS_dir cS1 HC.out.2⟩, BC, hHeld.2.2.2.2.2.2.2⟩
              exact AllReadyH.nil
            exact AllReadyH.nil
          exact AllReadyH.nil
        exact AllReadyH.nil
      exact AllReadyH.nil
    case rest =>
      obtain ⟨g, l, h, s, rfl, hF, bc, s6⟩ := hcut
      have HF := Lib.hid hF
      have bC := chk_bounds hF.1
      have HCH := Lib.hid hF.1
      have S6 := Lib.hid s6
      have BC := Lib.hid bc
      have q0 := bc.c0
      have q1 := bc.c1
      have q2 := bc.c2
      clear hF s6 bc S3 HS
      go_wp2_with fail
      refine (Size_any _ _ _ _ ⟨by omega, by omega⟩ ⟨by omega, by omega⟩ ⟨by omega, by omega⟩).mono ?_
      rintro e w6 ⟨rfl, hb6⟩
      have S7 := Lib.hid (S6.out.keep hb6)
      have BC7 := Lib.hid (BC.out.keep hb6)
      have W6 := Lib.hid S7.out.below
      have z6 := W6.out.size
      have gz := S7.out.p.size
      have gz2 := BC7.out.size
      clear hb6 q0 q1 q2 S6 BC
      by_cases cl : l ≤ h
      · have sl := size_num HCH.out cl
        have zl : (siz l h s == 0) = false := by simp; omega
        have EL : Hid (subAll l1 h1 s1 l h s = subL l1 h1 (magA s1) l h (magA s) (decide (s1 < 0))) := Lib.hid (if_pos cl)
        generalize siz l h s = zk at zl ⊢
        clear sl cl
        have p0 := S7.out.p.c0
        have p1 := S7.out.p.c1
        have p2 := S7.out.p.c2
        have p3 := S7.out.p.c3
        have q0 := BC7.out.c0
        have q1 := BC7.out.c1
        have q2 := BC7.out.c2
        go_wp2_with fail
        refine wp_region_held_drew (S := (fun w' => w'.cell? ⟨gw, 0, none⟩ = some (.int .i64 l1) ∧ w'.cell? ⟨gw, 1, none⟩ = some (.int .i64 h1) ∧ w'.cell? ⟨gw, 2, none⟩ = some (.int .i64 (magA s1)) ∧ w'.cell? ⟨gw, 3, none⟩ = some (.bool (decide (s1 < 0))) ∧ w'.cell? ⟨g, 0, none⟩ = some (.int .i64 l) ∧ w'.cell? ⟨g, 1, none⟩ = some (.int .i64 h) ∧ w'.cell? ⟨g, 2, none⟩ = some (.int .i64 s))) (by kernel_rfl) ?_ (fun hHeld => ?_)
        · first | exact hHeld | (simp [go_sem, *]; done)
        refine wpAnyH_take (i := 0) (oi := { dst := some 30, op := Op.load 102 (Operand.tmp 7), type := 102, pos := "sets.go:29", after := #[], guard := none }) (v := ?_) rfl (by kernel_rfl) (by kernel_rfl) (by kernel_rfl) (fun _ _ _ h => h) (Or.inl ⟨by rfl, ?_⟩) (by assumption) ?_
        rotate_left
        · (intro w hSw; (try dsimp only at hSw); go_simp; first | done | with_reducible rfl)
        try simp only [Act.put, List.setIfInBounds_toArray, List.set_cons_zero, List.set_cons_succ]
        refine wpAnyH_take (i := 1) (oi := { dst := some 31, op := Op.load 23 (Operand.tmp 8), type := 23, pos := "sets.go:29", after := #[], guard := none }) (v := ?_) rfl (by kernel_rfl) (by kernel_rfl) (by kernel_rfl) (fun _ _ _ h => h) (Or.inl ⟨by rfl, ?_⟩) (by assumption) ?_
        rotate_left
        · (intro w hSw; (try dsimp only at hSw); go_simp; first | done | with_reducible rfl)
        try simp only [Act.put, List.setIfInBounds_toArray, List.set_cons_zero, List.set_cons_succ]
        refine wpAnyH_ready (rs := [2]) (by kernel_rfl) (by simp) ?_
        refine AllReadyH.cons (o := { dst := some 32, op := Op.call { callee := Callee.value (Operand.func 109), args := #[Operand.tmp 31], argTypes := #[23] }, type := 102, pos := "sets.go:29", after := #[{ on := 1, ground := Ground.data }], guard := none }) rfl (fun K hK => ?_) AllReadyH.nil
        go_simp
        refine (open_any _ _ _ _ (by omega) (by omega)).mono ?_
        rintro e w7 ⟨rfl, hb7⟩
        have hb7 : Below w6.heap.size w6 w7 := ⟨hb7.os, hb7.tape, hb7.output, hb7.size, hb7.block⟩
        have W7 := Lib.hid (W6.out.trans (hb7.mono z6))
        have z7 := hb7.size
        go_wp2_with fail
        refine hK.out _ _ ?_ (fun hHeld2 => ?_)
        · (obtain ⟨q0, q1, q2, q3, q4, q5, q6⟩ := hHeld; exact ⟨(hb7.cell (p := ⟨gw, 0, none⟩) (by first | (simp; done) | (simp; omega))).trans q0, (hb7.cell (p := ⟨gw, 1, none⟩) (by first | (simp; done) | (simp; omega))).trans q1, (hb7.cell (p := ⟨gw, 2, none⟩) (by first | (simp; done) | (simp; omega))).trans q2, (hb7.cell (p := ⟨gw, 3, none⟩) (by first | (simp; done) | (simp; omega))).trans q3, (hb7.cell (p := ⟨g, 0, none⟩) (by first | (simp; done) | (simp; omega))).trans q4, (hb7.cell (p := ⟨g, 1, none⟩) (by first | (simp; done) | (simp; omega))).trans q5, (hb7.cell (p := ⟨g, 2, none⟩) (by first | (simp; done) | (simp; omega))).trans q6⟩)
        clear hK K hHeld
        have hHeld := hHeld2
        clear hHeld2
        try simp only [Act.put, List.setIfInBounds_toArray, List.set_cons_zero, List.set_cons_succ]
        refine wpAnyH_ready (rs := [3]) (by kernel_rfl) (by simp) ?_
        refine AllReadyH.cons (o := { dst := some 33, op := Op.call { callee := Callee.value (Operand.func 129), args := #[Operand.tmp 30, Operand.tmp 32], argTypes := #[102, 102] }, type := 41, pos := "sets.go:29", after := #[{ on := 0, ground := Ground.data }, { on := 2, ground := Ground.data }, { on := 2, ground := Ground.chain }], guard := none }) rfl (fun K hK => ?_) AllReadyH.nil
        go_simp
        refine (without_any _ _ _ _ _ _ _ _ _ bA.1 bA.2.1 bA.2.2.1 bA.2.2.2.1 bA.2.2.2.2.2.2.1 bA.2.2.2.2.2.2.2 bC.1 bC.2.1 bC.2.2.1 bC.2.2.2.1 bC.2.2.2.2.2.2.1 bC.2.2.2.2.2.2.2).mono ?_
        rintro e w8 ⟨v, er, rfl, hb8, hr⟩
        have W8 := Lib.hid (W7.out.trans (hb8.mono (by omega)))
        have HR8 := Lib.hid hr
        clear hr
        go_wp2_with fail
        refine hK.out _ _ ?_ (fun hHeld3 => ?_)
        · (obtain ⟨q0, q1, q2, q3, q4, q5, q6⟩ := hHeld; exact ⟨(hb8.cell (p := ⟨gw, 0, none⟩) (by first | (simp; done) | (simp; omega))).trans q0, (hb8.cell (p := ⟨gw, 1, none⟩) (by first | (simp; done) | (simp; omega))).trans q1, (hb8.cell (p := ⟨gw, 2, none⟩) (by first | (simp; done) | (simp; omega))).trans q2, (hb8.cell (p := ⟨gw, 3, none⟩) (by first | (simp; done) | (simp; omega))).trans q3, (hb8.cell (p := ⟨g, 0, none⟩) (by first | (simp; done) | (simp; omega))).trans q4, (hb8.cell (p := ⟨g, 1, none⟩) (by first | (simp; done) | (simp; omega))).trans q5, (hb8.cell (p := ⟨g, 2, none⟩) (by first | (simp; done) | (simp; omega))).trans q6⟩)
        clear hK K hHeld
        have hHeld := hHeld3
        clear hHeld3
        try simp only [Act.put, List.setIfInBounds_toArray, List.set_cons_zero, List.set_cons_succ]
        refine wpAnyH_take (i := 4) (oi := { dst := some 34, op := Op.extract (Operand.tmp 33) 0, type := 40, pos := "sets.go:29", after := #[{ on := 3, ground := Ground.data }], guard := none }) (v := ?_) rfl (by kernel_rfl) (by kernel_rfl) (by kernel_rfl) (fun _ _ _ h => h) (Or.inl ⟨by rfl, ?_⟩) (by assumption) ?_
        rotate_left
        · (intro w hSw; (try dsimp only at hSw); go_simp; first | done | with_reducible rfl)
        try simp only [Act.put, List.setIfInBounds_toArray, List.set_cons_zero, List.set_cons_succ]
        refine wpAnyH_take (i := 5) (oi := { dst := some 35, op := Op.extract (Operand.tmp 33) 1, type := 24, pos := "sets.go:29", after := #[{ on := 3, ground := Ground.data }], guard := none }) (v := ?_) rfl (by kernel_rfl) (by kernel_rfl) (by kernel_rfl) (fun _ _ _ h => h) (Or.inl ⟨by rfl, ?_⟩) (by assumption) ?_
        rotate_left
        · (intro w hSw; (try dsimp only at hSw); go_simp; first | done | with_reducible rfl)
        try simp only [Act.put, List.setIfInBounds_toArray, List.set_cons_zero, List.set_cons_succ]
        refine wpAnyH_take (i := 6) (oi := { dst := some 4, op := Op.assign (Operand.tmp 34), type := 40, pos := "sets.go:29", after := #[{ on := 4, ground := Ground.data }, { on := 3, ground := Ground.chain }, { on := 0, ground := Ground.phase }, { on := 1, ground := Ground.phase }, { on := 2, ground := Ground.phase }, { on := 3, ground := Ground.phase }, { on := 4, ground := Ground.phase }, { on := 5, ground := Ground.phase }], guard := none }) (v := ?_) rfl (by kernel_rfl) (by kernel_rfl) (by kernel_rfl) (fun _ _ _ h => h) (Or.inl ⟨by rfl, ?_⟩) (by assumption) ?_
        rotate_left
        · (intro w hSw; (try dsimp only at hSw); go_simp; first | done | with_reducible rfl)
        try simp only [Act.put, List.setIfInBounds_toArray, List.set_cons_zero, List.set_cons_succ]
        refine wpAnyH_take (i := 7) (oi := { dst := some 5, op := Op.assign (Operand.tmp 35), type := 24, pos := "sets.go:29", after := #[{ on := 5, ground := Ground.data }, { on := 6, ground := Ground.chain }, { on := 0, ground := Ground.phase }, { on := 1, ground := Ground.phase }, { on := 2, ground := Ground.phase }, { on := 3, ground := Ground.phase }, { on := 4, ground := Ground.phase }, { on := 5, ground := Ground.phase }, { on := 6, ground := Ground.phase }], guard := none }) (v := ?_) rfl (by kernel_rfl) (by kernel_rfl) (by kernel_rfl) (fun _ _ _ h => h) (Or.inl ⟨by rfl, ?_⟩) (by assumption) ?_
        rotate_left
        · (intro w hSw; (try dsimp only at hSw); go_simp; first | done | with_reducible rfl)
        try simp only [Act.put, List.setIfInBounds_toArray, List.set_cons_zero, List.set_cons_succ]
        refine wpAnyH_done (by kernel_rfl) ?_ _
        clear hHeld hb8 hb7
        go_wp2
        refine bodyPost_ret (v := .tuple #[v, .int .i64 er]) (by simp [results, Try.results45, go_sem, *]) rfl ⟨l, h, s, HF.out, v, er, rfl, W8.out, ?_⟩
        rw [EL.out]
        rcases HR8.out with e | ⟨e1, e2, e3⟩
        · exact Or.inl e
        · exact Or.inr ⟨e1, e2, owns_base e3 (by omega)⟩
      · have EL : Hid (subAll l1 h1 s1 l h s = [(l1, h1, s1)]) := Lib.hid (by unfold subAll; rw [if_neg cl, if_pos CA.out])
        rw [empty_a HCH.out cl]
        clear cl
        have x0 := S7.out.a.c0
        have x1 := S7.out.a.c1
        have x2 := S7.out.a.c2
        go_wp2
        refine bodyPost_ret (v := .tuple #[.slice (some ⟨w6.heap.size, 0, none⟩) 1 1, .int .i64 0]) (by simp [results, Try.results45, go_sem, *]) rfl ⟨l, h, s, HF.out, _, _, rfl, W6.out.trans ((below_new _ _).mono z6), Or.inr ?_⟩
        rw [EL.out]
        exact ⟨by simp, rfl, World.ownsRow_lit w6 #[.int .i64 l1, .int .i64 h1, .int .i64 s1] 1 z6 (by unfold maxLen; omega) (by simp)⟩
  · have e0 := empty_a hA.out ca
    have EL : Hid (subAll l1 h1 s1 1 0 1 = []) := Lib.hid (by unfold subAll; rw [if_neg (by omega), if_neg ca])
    have HF : Hid (InterF l1 h1 s1 l2 h2 s2 1 0 1) := Lib.hid ⟨by decide, fun n => ⟨fun m => absurd m (rmem_none (by omega)), fun m => absurd m.1 (rmem_none ca)⟩, fun c => by omega⟩
    rw [e0]
    clear ca e0
    go_wp2
    refine bodyPost_ret (v := .tuple #[.slice none 0 0, .int .i64 0]) (by simp [results, Try.results45, go_sem, *]) rfl ⟨1, 0, 1, HF.out, _, _, rfl, W2.out, Or.inr ?_⟩
    rw [EL.out]
    exact ⟨by simp, rfl, World.ownsRow_nil _ _ _ _⟩
end Go.Proofs.Ytmelknodmbdhpaa
namespace Go.Proofs.Ytmelknodmbdhpaa
open Go.RowKit
/-- the reference's Subtract: its boxes, and the list so far -/
structure RSt (w : World) (l1 h1 s1 l h s : Int) (cb base : Nat) (v : Value) (L : List R3) (wx : World) : Prop where
  below : Below w.heap.size w wx
  a : B3 w.heap.size (.int .i64 l1) (.int .i64 h1) (.int .i64 s1) wx
  c : B3 cb (.int .i64 l) (.int .i64 h) (.int .i64 s) wx
  own : wx.ownsRow base 23 3 v L.length (cells3 L)
  size : base ≤ wx.heap.size
  lt : cb < base
  lt2 : w.heap.size < base
theorem RSt.keep {w : World} {l1 h1 s1 l h s : Int} {cb base : Nat} {v : Value} {L : List R3} {w1 w2 : World} (r : RSt w l1 h1 s1 l h s cb base v L w1) (hb : Below w1.heap.size w1 w2) : RSt w l1 h1 s1 l h s cb base v L w2 :=
  ⟨r.below.trans (hb.mono r.below.size), r.a.keep hb, r.c.keep hb, owns_below r.own hb, Nat.le_trans r.size hb.size, r.lt, r.lt2⟩
theorem b3_under {g B : Nat} {a b c : Value} {w w1 : World} (k : B3 g a b c w) (hb : Below B w w1) (hg : g < B) : B3 g a b c w1 :=
  ⟨Nat.lt_of_lt_of_le k.size hb.size, (hb.cell (p := ⟨g, 0, none⟩) hg).trans k.c0, (hb.cell (p := ⟨g, 1, none⟩) hg).trans k.c1, (hb.cell (p := ⟨g, 2, none⟩) hg).trans k.c2,
    (hb.frozen (p := ⟨g, 0, none⟩) hg).trans k.f0, (hb.frozen (p := ⟨g, 1, none⟩) hg).trans k.f1, (hb.frozen (p := ⟨g, 2, none⟩) hg).trans k.f2⟩
theorem RSt.put {w : World} {l1 h1 s1 l h s : Int} {cb base : Nat} {v : Value} {L : List R3} {w1 : World} (r : Hid (RSt w l1 h1 s1 l h s cb base v L w1)) (lo hi st : Int) (dn : Bool) (hn : L.length ≤ 5000) :
    Calls Try.prog 130 #[v, .agg #[.int .i64 (nL lo hi), .int .i64 (nH lo hi), .int .i64 (nS lo hi st dn)]] w1 fun e w2 => ∃ v2, e = .returned v2 ∧ Hid (RSt w l1 h1 s1 l h s cb base v2 (addP L lo hi st dn) w2) :=
  (put_nrm v L lo hi st dn base w1 r.out.own r.out.size hn).mono fun _ _ ⟨v2, he, ho, hb⟩ => ⟨v2, he, r.out.below.trans (hb.mono (by have := r.out.lt2; omega)), b3_under r.out.a hb r.out.lt2, b3_under r.out.c hb r.out.lt, ho, Nat.le_trans r.out.size hb.size, r.out.lt, r.out.lt2⟩
end Go.Proofs.Ytmelknodmbdhpaa
namespace Go.Proofs.Ytmelknodmbdhpaa
open Go.RowKit
/-- where the elements of a slice that holds a list lie -/
theorem owns_at {w : World} {base g cap : Nat} {L : List R3} (h : w.ownsRow base 23 3 (.slice (some ⟨g, 0, none⟩) L.length cap) L.length (cells3 L)) (k : Nat) (x : R3) (hx : L[k]? = some x) :
    w.cell? ⟨g, k * 3, none⟩ = some (.int .i64 x.1) ∧ w.cell? ⟨g, k * 3 + 1, none⟩ = some (.int .i64 x.2.1) ∧ w.cell? ⟨g, k * 3 + 2, none⟩ = some (.int .i64 x.2.2) := by
  have hk : k < L.length := (List.getElem?_eq_some_iff.1 hx).1
  obtain ⟨q0, q1, q2⟩ := cells3_get L k x hx
  exact ⟨(h.cellAt (k * 3) (by omega)).trans q0, (h.cellAt (k * 3 + 1) (by omega)).trans q1, (h.cellAt (k * 3 + 2) (by omega)).trans q2⟩
end Go.Proofs.Ytmelknodmbdhpaa
namespace Go.Proofs.Ytmelknodmbdhpaa
open Go.RowKit Go.Shelf
attribute [local go_sem] Oper.semAt_some
/-- the number at a position -/
def nthV (l h s : Int) (k : Nat) : Int := if s < 0 then h - (k : Int) * magA s else l + (k : Int) * magA s
/-- the first k numbers of a range, in its order -/
def numsU (l h s : Int) (k : Nat) : List Int := (List.range k).map (nthV l h s)
/-- the numbers of a range, in its order -/
def numsL (l h s : Int) : List Int := numsU l h s (siz l h s).toNat
theorem numsU_succ (l h s : Int) (k : Nat) : numsU l h s (k + 1) = numsU l h s k ++ [nthV l h s k] := by
  unfold numsU; rw [List.range_succ, List.map_append]; rfl
theorem numsU_length (l h s : Int) (k : Nat) : (numsU l h s k).length = k := by unfold numsU; simp
theorem numsU_prefix (l h s : Int) {k n : Nat} (hk : k ≤ n) : numsU l h s k <+: numsU l h s n := by
  induction n with
  | zero => obtain rfl : k = 0 := by omega
            exact List.prefix_refl _
  | succ n ih =>
    by_cases c : k = n + 1
    · subst c; exact List.prefix_refl _
    · rw [numsU_succ]; exact (ih (by omega)).trans (List.prefix_append _ _)
set_option maxHeartbeats 1000000 in
/-- All hands back a closure over a box of the range. -/
theorem all_in (n : Nat) (l h s : Int) (w : World) :
    CallsIn Fence.wide n Try.prog 134 #[.agg #[.int .i64 l, .int .i64 h, .int .i64 s]] w fun e w' => e = .returned (.func (.func 162) #[] #[.pointer (some ⟨w.heap.size, 0, none⟩)]) ∧ w' = w.alloc (.cells #[.int .i64 l, .int .i64 h, .int .i64 s] 23) := by
  refine callsIn_of_wp Try.func134 rfl trivial ?_ rfl
  simp only [Try.ntmps134, List.size_toArray, List.length_cons, List.length_nil, Nat.reduceAdd, Nat.reduceSub, Array.replicate_succ, Array.replicate_zero, List.push_toArray, List.append_toArray, List.nil_append, List.cons_append]
  gi_wp2
  go_ret
  exact ⟨rfl, rfl⟩
theorem abide {J : List Int → World → Prop} {B : Nat} {pre : List Int} {w w' : World} (hJ : AbidesFrom B J) (h : J pre w) (hb : Below w.heap.size w w') : J pre w' :=
  hJ _ _ _ none h ⟨hb.os, hb.tape, hb.output, hb.size, fun k hk _ => hb.block k hk⟩ (fun _ e => by cases e)
theorem heap_keep {w w' : World} {k : Nat} {o : Obj} (h : w.heap[k]? = some o) (hb : Below w.heap.size w w') : w'.heap[k]? = some o := (hb.block k (Array.getElem?_eq_some_iff.1 h).1).trans h
theorem row3 {w : World} {g : Nat} {a b c : Value} {t : TypeId} (h : w.heap[g]? = some (.cells #[a, b, c] t (0, 0))) : w.cell? ⟨g, 0, none⟩ = some a ∧ w.cell? ⟨g, 1, none⟩ = some b ∧ w.cell? ⟨g, 2, none⟩ = some c := by
  refine ⟨?_, ?_, ?_⟩ <;> simp [World.cell?, h]
theorem row4 {w : World} {g : Nat} {a b c d : Value} {t : TypeId} (h : w.heap[g]? = some (.cells #[a, b, c, d] t (0, 0))) : w.cell? ⟨g, 0, none⟩ = some a ∧ w.cell? ⟨g, 1, none⟩ = some b ∧ w.cell? ⟨g, 2, none⟩ = some c ∧ w.cell? ⟨g, 3, none⟩ = some d := by
  refine ⟨?_, ?_, ?_, ?_⟩ <;> simp [World.cell?, h]
/-- blocks of ranges and of progressions lie as they lay -/
def Kq (w w' : World) : Prop := ∀ (k : Nat) (c : Array Value) (t : TypeId) (fr : Nat × Nat), (t = 102 ∨ t = 23) → w.heap[k]? = some (Obj.cells c t fr) → w'.heap[k]? = some (Obj.cells c t fr)
theorem kq_trans {a b c : World} (h : Kq a b) (k : Kq b c) : Kq a c := fun i x t f ht hi => k i x t f ht (h i x t f ht hi)
theorem siz_bdn {l h s : Int} (hk : chk l h s = 0) : 0 ≤ siz l h s ∧ siz l h s ≤ 2000001 := by
  have bA := chk_bounds hk
  by_cases c : l ≤ h
  · have := quo_bd (h - l) (magA s) (by omega) (by omega)
    rw [siz_ok hk c]; omega
  · have := empty_a hk c; omega
theorem psize_any (l h s : Int) (w : World) (hk : Hid (chk l h s = 0)) :
    Calls Try.prog 110 #[.agg #[.int .i64 l, .int .i64 h, .int .i64 (magA s), .bool (decide (s < 0))]] w fun e w' => e = .returned (.int .i64 (siz l h s)) ∧ Below w.heap.size w w' := by
  have bA := chk_bounds hk.out
  by_cases c : l ≤ h
  · exact size_flag l h (magA s) _ w (by omega) c (by omega) (by omega) _ (Lib.hid (siz_ok hk.out c))
  · obtain ⟨rfl, rfl, rfl⟩ := le_of_chk hk.out c
    exact size_empty w
theorem pnth_any (l h s : Int) (k : Nat) (w : World) (hk : Hid (chk l h s = 0)) (hn : (k : Int) < siz l h s) :
    Calls Try.prog 111 #[.agg #[.int .i64 l, .int .i64 h, .int .i64 (magA s), .bool (decide (s < 0))], .int .i64 k] w fun e w' => e = .returned (.int .i64 (nthV l h s k)) ∧ Below w.heap.size w w' := by
  have bA := chk_bounds hk.out
  have le : l ≤ h := by
    by_cases c : l ≤ h
    · exact c
    · have := empty_a hk.out c; omega
  have bd := mul_bd (k : Int) (h - l) (magA s) (by omega) (by rw [← siz_ok hk.out le]; exact hn) (by omega)
  unfold nthV
  by_cases c : s < 0
  · rw [if_pos c, decide_eq_true c]
    exact nth_down l h (magA s) k w (by omega) (by omega) (by omega) (by omega)
  · rw [if_neg c, decide_eq_false c]
    exact nth_up l h (magA s) k w (by omega) (by omega) (by omega) (by omega)
set_option maxRecDepth 100000 in
set_option maxHeartbeats 3200000 in
/-- All's closure: every number, in order; or a part, where a round has said 'no more'. -/
theorem all1_in (n : Nat) (hn : 3 ≤ n) (l' Bn : Nat) (l h s : Int) (hk : Hid (chk l h s = 0)) (J Jx : List Int → World → Prop)
    (hY : ∀ pre x W, J pre W → pre.length < (siz l h s).toNat → YieldAt Fence.wide (n - 1) Try.prog l' #[.int .i64 x] W fun e W' =>
      (e = .returned (.bool true) ∧ J (pre ++ [x]) W' ∧ Kq W W') ∨ (e = .returned (.bool false) ∧ Jx (pre ++ [x]) W'))
    (W : World) (hJ : AbidesFrom W.heap.size J) (hBn : Hid (W.heap[Bn]? = some (.cells #[.int .i64 l, .int .i64 h, .int .i64 s] 23 (0, 0)))) (h0 : J [] W) :
    CallsIn Fence.wide n Try.prog 162 #[.func (.yield l') #[] #[], .pointer (some ⟨Bn, 0, none⟩)] W fun e W' => (∃ v, e = .returned v) ∧
      ((∃ ys, ys = numsL l h s ∧ J ys W') ∨ (∃ pre, pre <+: numsL l h s ∧ Jx pre W')) := by
  have bA := chk_bounds hk.out
  obtain ⟨x0, x1, x2⟩ := row3 hBn.out
  have hm : 0 ≤ siz l h s ∧ siz l h s ≤ 2000001 := siz_bdn hk.out
  have HJ := Lib.hid hJ
  have HY := Lib.hid hY
  have J0 := Lib.hid h0
  clear hJ hY h0
  refine callsIn_of_wp Try.func162 rfl trivial ?_ rfl
  simp only [Try.ntmps162, List.size_toArray, List.length_cons, List.length_nil, Nat.reduceAdd, Nat.reduceSub, Array.replicate_succ, Array.replicate_zero, List.push_toArray, List.append_toArray, List.nil_append, List.cons_append]
  gi_wp2_with fail
  refine ⟨trivial, fun _ => by omega, ?_⟩
  refine (callsIn_wide.2 (check_ok _ _ _ _ ⟨by omega, by omega⟩ ⟨by omega, by omega⟩ ⟨by omega, by omega⟩ hk)).mono ?_
  rintro e w1 ⟨rfl, hb1⟩
  have J1 := Lib.hid (abide HJ.out J0.out hb1)
  have B1 := Lib.hid (heap_keep hBn.out hb1)
  clear hb1 x0 x1 x2 J0
  obtain ⟨x0, x1, x2⟩ := row3 B1.out
  gi_wp2_with fail
  refine ⟨trivial, fun _ => by omega, ?_⟩
  refine (callsIn_wide.2 (open_any _ _ _ _ (by omega) (by omega))).mono ?_
  rintro e w2 ⟨rfl, hb2⟩
  have J2 := Lib.hid (abide HJ.out (abide HJ.out J1.out hb2) (below_new w2 (.cells #[.int .i64 l, .int .i64 h, .int .i64 (magA s), .bool (decide (s < 0))] 102)))
  have P2 : Hid ((w2.alloc (.cells #[.int .i64 l, .int .i64 h, .int .i64 (magA s), .bool (decide (s < 0))] 102)).heap[w2.heap.size]? = some (.cells #[.int .i64 l, .int .i64 h, .int .i64 (magA s), .bool (decide (s < 0))] 102 (0, 0))) := Lib.hid (heap_alloc_new w2 _)
  clear hb2 x0 x1 x2 J1 B1
  gi_wp2_with fail
  refine ⟨trivial, fun _ => by omega, ?_⟩
  refine (callsIn_wide.2 (psize_any _ _ _ _ hk)).mono ?_
  rintro e w3 ⟨rfl, hb3⟩
  have J3 := Lib.hid (abide HJ.out J2.out hb3)
  have P3 := Lib.hid (heap_keep P2.out hb3)
  clear hb3 P2 J2
  generalize w2.heap.size = bp at *
  gi_wp2_with fail
  gi_loopw [4, 12] (fun _ v wr => ∃ k : Nat, (k : Int) ≤ siz l h s ∧ v = .int .i64 k ∧ Hid (J (numsU l h s k) wr) ∧ Hid (wr.heap[bp]? = some (.cells #[.int .i64 l, .int .i64 h, .int .i64 (magA s), .bool (decide (s < 0))] 102 (0, 0))))
    (fun _ v _ => (siz l h s).toNat - (intOf v).toNat)
  case atStart => exact ⟨0, hm.1, rfl, J3, P3⟩
  case round =>
    obtain ⟨k, hkk, rfl, J4, P4⟩ := hrel
    clear J3 P3
    by_cases hlt : (k : Int) < siz l h s
    · obtain ⟨p0, p1, p2, p3⟩ := row4 P4.out
      gi_wp2_with fail
      refine ⟨trivial, fun _ => by omega, ?_⟩
      refine (callsIn_wide.2 (pnth_any _ _ _ _ _ hk hlt)).mono ?_
      rintro e w5 ⟨rfl, hb5⟩
      have J5 := Lib.hid (abide HJ.out J4.out hb5)
      have P5 := Lib.hid (heap_keep P4.out hb5)
      clear hb5 p0 p1 p2 p3 J4 P4
      obtain ⟨fn, tmps, assign, body, hy, hR⟩ := HY.out (numsU l h s k) (nthV l h s k) w5 J5.out (by rw [numsU_length]; omega)
      gi_wp2
      refine ⟨fun _ => by omega, hR.mono ?_⟩
      rintro e W3 (⟨rfl, hJ3, hk3⟩ | ⟨rfl, hJx3⟩)
      · have J6 := Lib.hid hJ3
        have P6 := Lib.hid (hk3 _ _ _ _ (Or.inl rfl) P5.out)
        clear hJ3 hk3 hR hy J5 P5
        have jw : IntKind.i64.wrap ((k : Int) + 1) = (k : Int) + 1 := IntWalk.i64_in _ (by omega)
        gi_wp2
        go_roundw
        case rel => exact ⟨k + 1, by omega, by go_num, by rw [numsU_succ]; exact J6, P6⟩
        case measure => simp [intOf]; omega
      · have JX := Lib.hid hJx3
        clear hJx3 hR hy
        gi_wp2
        refine bodyPost_ret (results_none rfl _ _ _) rfl ?_
        refine ⟨⟨_, rfl⟩, .inr ⟨_, ?_, JX.out⟩⟩
        rw [← numsU_succ]
        exact numsU_prefix l h s (by omega)
    · have E : Hid ((siz l h s).toNat = k) := Lib.hid (by omega)
      gi_wp2
      go_end0
      exact ⟨⟨_, rfl⟩, .inl (by unfold numsL; rw [E.out]; exact J4.out)⟩
end Go.Proofs.Ytmelknodmbdhpaa
namespace Go.Proofs.Ytmelknodmbdhpaa
open Go.RowKit Go.Shelf
attribute [local go_sem] Oper.semAt_some
theorem Try.infoInt : (Try.prog.info? 3).map (fun i => (i.zero, i.size, i.bytes)) = some (some (.int .i64 0), 1, 8) := by kernel_rfl
theorem all_stops (n : Nat) (hn : 3 ≤ n) (Bn : Nat) (l h s : Int) (w : World) (hk : Hid (chk l h s = 0)) (hB : Hid (w.heap[Bn]? = some (.cells #[.int .i64 l, .int .i64 h, .int .i64 s] 23 (0, 0)))) :
    SeqStopsK Fence.wide n Try.prog 162 #[.pointer (some ⟨Bn, 0, none⟩)] (fun x : Int => #[Value.int .i64 x]) Kq (fun ys => ys = numsL l h s) (fun pre => pre <+: numsL l h s) (siz l h s).toNat w := fun l' J Jx W hW hJ _ hY h0 =>
  all1_in n hn l' Bn l h s hk J Jx hY W hJ (Lib.hid (heap_keep hB.out hW)) h0
theorem kq_b (W : World) (l : Nat) (o o' : Obj) (hl : W.heap[l]? = some o) (ho : o.isCells = false) : Kq W (W.putObj l o') := fun k c t fr _ hk => by
  have hne : some k ≠ some l := by
    intro e
    have e' : k = l := by simpa using e
    subst e'
    rw [hl] at hk
    cases hk
    cases ho
  exact ((grownBy_putObj' W l o').block k (Array.getElem?_eq_some_iff.1 hk).1 hne).trans hk
theorem boxed_else {W : World} {B C : Nat} {t : TypeId} {u v : Value} (h : Boxed W B t u) (hne : B ≠ C) : Boxed (W.setCell ⟨C, 0, none⟩ v) B t u := (Below.heap_setCell W ⟨C, 0, none⟩ v B hne).trans h
end Go.Proofs.Ytmelknodmbdhpaa
namespace Go.Proofs.Ytmelknodmbdhpaa
open Go.RowKit
theorem nthV_in {l h s : Int} (hk : chk l h s = 0) {k : Nat} (hn : (k : Int) < siz l h s) : posB l h s (nthV l h s k) = true ∧ posN l h s (nthV l h s k) = k ∧ l ≤ nthV l h s k ∧ nthV l h s k ≤ h := by
  have bA := chk_bounds hk
  have le : l ≤ h := by
    by_cases c : l ≤ h
    · exact c
    · have := empty_a hk c; omega
  obtain ⟨st, z, m, s0⟩ := steps_a hk le
  have bd := mul_bd (k : Int) (h - l) (magA s) (by omega) (by rw [← siz_ok hk le]; exact hn) (by omega)
  have hd : magA s ∣ h - l := ⟨siz l h s - 1, by rw [st, Int.mul_comm]⟩
  have mem : l ≤ nthV l h s k ∧ nthV l h s k ≤ h ∧ (nthV l h s k - l) % magA s = 0 := by
    unfold nthV
    split
    · refine ⟨by omega, by omega, Int.emod_eq_zero_of_dvd ?_⟩
      rw [show h - (k : Int) * magA s - l = (h - l) - (k : Int) * magA s by omega]
      exact Int.dvd_sub hd (Int.dvd_mul_left _ _)
    · refine ⟨by omega, by omega, Int.emod_eq_zero_of_dvd ?_⟩
      rw [show l + (k : Int) * magA s - l = (k : Int) * magA s by omega]
      exact Int.dvd_mul_left _ _
  have p : posB l h s (nthV l h s k) = true := decide_eq_true ⟨hk, mem.1, mem.2.1, mem.2.2⟩
  refine ⟨p, ?_, mem.1, mem.2.1⟩
  unfold posN
  rw [if_pos p]
  unfold nthV
  by_cases c : s < 0
  · rw [if_pos c, if_pos c, show h - (h - (k : Int) * magA s) = (k : Int) * magA s by omega, Int.mul_ediv_cancel _ (by omega)]
  · rw [if_neg c, if_neg c, show l + (k : Int) * magA s - l = (k : Int) * magA s by omega, Int.mul_ediv_cancel _ (by omega)]
/-- the law's box, and the slice that it walks -/
structure OSt (w : World) (l h s : Int) (base : Nat) (v : Value) (n : Nat) (wx : World) : Prop where
  below : Below w.heap.size w wx
  a : B3 w.heap.size (.int .i64 l) (.int .i64 h) (.int .i64 s) wx
  own : wx.ownsRow base 3 1 v n ((numsL l h s).map (Value.int .i64))
theorem OSt.keep {w : World} {l h s : Int} {base n : Nat} {v : Value} {w1 w2 : World} (o : OSt w l h s base v n w1) (hb : Below w1.heap.size w1 w2) : OSt w l h s base v n w2 :=
  ⟨o.below.trans (hb.mono o.below.size), o.a.keep hb, owns_below o.own hb⟩
theorem owns_addr {w : World} {base n cap : Nat} {e : TypeId} {size : Nat} {ao : Option Addr} {xs : List Value} (h : w.ownsRow base e size (.slice ao n cap) n xs) (hn : ¬ n = 0) : ∃ g, ao = some ⟨g, 0, none⟩ := by
  rcases h.2 with ⟨_, e⟩ | ⟨g, c, _, e, _⟩
  · exact absurd e hn
  · injection e with e1 e2 e3
    exact ⟨g, e1⟩
theorem numsL_length (l h s : Int) : (numsL l h s).length = (siz l h s).toNat := numsU_length l h s _
theorem numsL_get (l h s : Int) (k : Nat) (hk : k < (siz l h s).toNat) : (numsL l h s)[k]? = some (nthV l h s k) := by
  unfold numsL numsU; simp [hk]
theorem res1b {w w1 : World} {t : TypeId} {a b c : Value} (hb : Below (w.alloc (.cells #[a, b, c] t)).heap.size (w.alloc (.cells #[a, b, c] t)) w1) : Below w.heap.size w w1 ∧ B3 w.heap.size a b c w1 :=
  ⟨((below_new _ _)).trans (hb.mono (by simp)), (B3.new a b c t w).keep hb⟩
end Go.Proofs.Ytmelknodmbdhpaa
