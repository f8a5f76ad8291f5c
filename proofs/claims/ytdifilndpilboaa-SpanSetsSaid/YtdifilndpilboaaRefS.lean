/-
  The reference's Hull of right ranges: the least range that has both.
-/
import Derived.Test.YtdifilndpilboaaRefQ
import Derived.Test.YtdifilndpilboaaAlgH
import Derived.WalkKit
import Derived.Deep.RegionWith
import Derived.Deep.DeepCutAuto
import Derived.Deep.LoopGhost
import Derived.Deep.CutBlock
import Derived.WalkSpells
import Derived.WalkLawsBesides
import Derived.BigQuiet
import Derived.Deep.QuietTactic
import Derived.Deep.RegionHeld3
import Derived.Deep.DrawnRows
import Derived.Lib.Hide
namespace Go.Proofs.Ytdifilndpilboaa
open Go.RowKit

/-- a block of three cells that the call itself made -/
structure B3 (g : Nat) (a b c : Value) (w : World) : Prop where
  size : g < w.heap.size
  c0 : w.cell? ⟨g, 0, none⟩ = some a
  c1 : w.cell? ⟨g, 1, none⟩ = some b
  c2 : w.cell? ⟨g, 2, none⟩ = some c
  f0 : w.frozen? ⟨g, 0, none⟩ = false
  f1 : w.frozen? ⟨g, 1, none⟩ = false
  f2 : w.frozen? ⟨g, 2, none⟩ = false
theorem B3.keep {g : Nat} {a b c : Value} {w w1 : World} (k : B3 g a b c w) (hb : Below w.heap.size w w1) : B3 g a b c w1 :=
  ⟨Nat.lt_of_lt_of_le k.size hb.size, (hb.cell (p := ⟨g, 0, none⟩) k.size).trans k.c0, (hb.cell (p := ⟨g, 1, none⟩) k.size).trans k.c1, (hb.cell (p := ⟨g, 2, none⟩) k.size).trans k.c2,
    (hb.frozen (p := ⟨g, 0, none⟩) k.size).trans k.f0, (hb.frozen (p := ⟨g, 1, none⟩) k.size).trans k.f1, (hb.frozen (p := ⟨g, 2, none⟩) k.size).trans k.f2⟩
/-- three stores into a block -/
def set3 (w : World) (g : Nat) (a b c : Value) : World := ((w.setCell ⟨g, 0, none⟩ a).setCell ⟨g, 1, none⟩ b).setCell ⟨g, 2, none⟩ c
theorem set3s_below {B g : Nat} {w : World} (h : B ≤ g) (a b c : Value) : Below B w (set3 w g a b c) :=
  (((Below.refl _ _).setCell (p := ⟨g, 0, none⟩) h a).setCell (p := ⟨g, 1, none⟩) h b).setCell (p := ⟨g, 2, none⟩) h c
theorem B3.set {g : Nat} {a b c : Value} {w : World} (k : B3 g a b c w) (a' b' c' : Value) : B3 g a' b' c' (set3 w g a' b' c') := by
  obtain ⟨s, c0, c1, c2, f0, f1, f2⟩ := k
  constructor
  · simp [set3, World.setCell]; exact s
  all_goals simp [set3, go_sem, *]
theorem B3.other {g k : Nat} {a b c : Value} {w : World} (h : B3 g a b c w) (hne : g ≠ k) (a' b' c' : Value) : B3 g a b c (set3 w k a' b' c') := by
  obtain ⟨s, c0, c1, c2, f0, f1, f2⟩ := h
  constructor
  · simp [set3, World.setCell]; exact s
  all_goals simp [set3, go_sem, *]
/-- the blocks of a function with two ranges and a result that is a range -/
structure T3 (w : World) (a1 a2 a3 b1 b2 b3 : Int) (w' : World) : Prop where
  below : Below w.heap.size w w'
  a : B3 w.heap.size (.int .i64 a1) (.int .i64 a2) (.int .i64 a3) w'
  b : B3 (w.heap.size + 1) (.int .i64 b1) (.int .i64 b2) (.int .i64 b3) w'
  r : B3 (w.heap.size + 1 + 1) (.int .i64 0) (.int .i64 0) (.int .i64 0) w'
theorem T3.keep {w w1 w2 : World} {a1 a2 a3 b1 b2 b3 : Int} (h : T3 w a1 a2 a3 b1 b2 b3 w1) (hb : Below w1.heap.size w1 w2) : T3 w a1 a2 a3 b1 b2 b3 w2 :=
  ⟨h.below.trans (hb.mono h.below.size), h.a.keep hb, h.b.keep hb, h.r.keep hb⟩
theorem B3.new (a b c : Value) (t : TypeId) (w : World) : B3 w.heap.size a b c (w.alloc (.cells #[a, b, c] t)) := by
  constructor <;> simp [go_sem]
theorem T3.new {w w1 : World} {t : TypeId} {a1 a2 a3 b1 b2 b3 : Int} (hb : Below (((w.alloc (.cells #[.int .i64 a1, .int .i64 a2, .int .i64 a3] t)).alloc (.cells #[.int .i64 b1, .int .i64 b2, .int .i64 b3] t)).alloc (.cells #[.int .i64 0, .int .i64 0, .int .i64 0] t)).heap.size (((w.alloc (.cells #[.int .i64 a1, .int .i64 a2, .int .i64 a3] t)).alloc (.cells #[.int .i64 b1, .int .i64 b2, .int .i64 b3] t)).alloc (.cells #[.int .i64 0, .int .i64 0, .int .i64 0] t)) w1) : T3 w a1 a2 a3 b1 b2 b3 w1 := by
  have n0 := B3.new (.int .i64 a1) (.int .i64 a2) (.int .i64 a3) t w
  have n1 := B3.new (.int .i64 b1) (.int .i64 b2) (.int .i64 b3) t (w.alloc (.cells #[.int .i64 a1, .int .i64 a2, .int .i64 a3] t))
  have n2 := B3.new (.int .i64 0) (.int .i64 0) (.int .i64 0) t ((w.alloc (.cells #[.int .i64 a1, .int .i64 a2, .int .i64 a3] t)).alloc (.cells #[.int .i64 b1, .int .i64 b2, .int .i64 b3] t))
  have m0 := (n0.keep (below_new _ _)).keep (w1 := ((w.alloc (.cells #[.int .i64 a1, .int .i64 a2, .int .i64 a3] t)).alloc (.cells #[.int .i64 b1, .int .i64 b2, .int .i64 b3] t)).alloc (.cells #[.int .i64 0, .int .i64 0, .int .i64 0] t)) (below_new _ _)
  have m1 := n1.keep (w1 := ((w.alloc (.cells #[.int .i64 a1, .int .i64 a2, .int .i64 a3] t)).alloc (.cells #[.int .i64 b1, .int .i64 b2, .int .i64 b3] t)).alloc (.cells #[.int .i64 0, .int .i64 0, .int .i64 0] t)) (below_new _ _)
  have e1 : (w.alloc (.cells #[.int .i64 a1, .int .i64 a2, .int .i64 a3] t)).heap.size = w.heap.size + 1 := by simp
  have e2 : ((w.alloc (.cells #[.int .i64 a1, .int .i64 a2, .int .i64 a3] t)).alloc (.cells #[.int .i64 b1, .int .i64 b2, .int .i64 b3] t)).heap.size = w.heap.size + 1 + 1 := by simp
  rw [e1] at m1
  rw [e2] at n2
  exact ⟨((((Below.refl _ _).alloc (Nat.le_refl _) _).alloc (by simp) _).alloc (by simp; omega) _).trans (hb.mono (by simp; omega)), m0.keep hb, m1.keep hb, n2.keep hb⟩
theorem T3.seta {w w1 : World} {a1 a2 a3 b1 b2 b3 : Int} (h : T3 w a1 a2 a3 b1 b2 b3 w1) : T3 w b1 b2 b3 b1 b2 b3 (set3 w1 w.heap.size (.int .i64 b1) (.int .i64 b2) (.int .i64 b3)) :=
  ⟨h.below.trans (set3s_below (Nat.le_refl _) _ _ _), h.a.set _ _ _, h.b.other (by omega) _ _ _, h.r.other (by omega) _ _ _⟩
theorem T3.setb {w w1 : World} {a1 a2 a3 b1 b2 b3 : Int} (h : T3 w a1 a2 a3 b1 b2 b3 w1) : T3 w a1 a2 a3 a1 a2 a3 (set3 w1 (w.heap.size + 1) (.int .i64 a1) (.int .i64 a2) (.int .i64 a3)) :=
  ⟨h.below.trans (set3s_below (by omega) _ _ _), h.a.other (by omega) _ _ _, h.b.set _ _ _, h.r.other (by omega) _ _ _⟩

/-- the divisor with a range's step, if it has two numbers -/
def gN (lo hi m g : Int) : Int := if lo < hi then gcdI g m else g
theorem gN_facts {lo hi m g : Int} (g0 : 0 ≤ g) (g1 : g ≤ 4000000) (m0 : 0 ≤ m) (m1 : m ≤ 4000000) :
    0 ≤ gN lo hi m g ∧ gN lo hi m g ≤ 4000000 ∧ gN lo hi m g ∣ g ∧ (lo < hi → gN lo hi m g ∣ m) ∧ ∀ e, e ∣ g → (lo < hi → e ∣ m) → e ∣ gN lo hi m g := by
  unfold gN
  by_cases c : lo < hi
  · rw [if_pos c]
    obtain ⟨x, G⟩ := gcdI_gcd g m g0 m0 g1 m1
    exact ⟨G.n, G.m, G.da, fun _ => G.db, fun e e1 e2 => G.all e1 (e2 c)⟩
  · rw [if_neg c]
    exact ⟨g0, g1, Int.dvd_refl _, fun h => absurd h c, fun e e1 _ => e1⟩
/-- what stands in the boxes behind the test whether one is empty -/
def Sub1 (l1 h1 s1 l2 h2 s2 a1 a2 a3 : Int) : Prop := (l1 ≤ h1 ∧ a1 = l1 ∧ a2 = h1 ∧ a3 = s1) ∨ (¬ l1 ≤ h1 ∧ a1 = l2 ∧ a2 = h2 ∧ a3 = s2)
theorem Sub1.chk {l1 h1 s1 l2 h2 s2 a1 a2 a3 : Int} (h : Sub1 l1 h1 s1 l2 h2 s2 a1 a2 a3) (hA : chk l1 h1 s1 = 0) (hB : chk l2 h2 s2 = 0) : chk a1 a2 a3 = 0 := by
  rcases h with ⟨_, rfl, rfl, rfl⟩ | ⟨_, rfl, rfl, rfl⟩ <;> assumption
theorem hull_subst {l1 h1 s1 l2 h2 s2 a1 a2 a3 b1 b2 b3 L H S : Int} (pa : Sub1 l1 h1 s1 l2 h2 s2 a1 a2 a3) (pb : Sub1 l2 h2 s2 a1 a2 a3 b1 b2 b3) (h : HullOk a1 a2 a3 b1 b2 b3 L H S) : HullOk l1 h1 s1 l2 h2 s2 L H S := by
  obtain ⟨k1, k2, k3, k4⟩ := h
  rcases pa with ⟨c1, rfl, rfl, rfl⟩ | ⟨c1, rfl, rfl, rfl⟩
  · rcases pb with ⟨c2, rfl, rfl, rfl⟩ | ⟨c2, rfl, rfl, rfl⟩
    · exact ⟨k1, k2, k3, k4⟩
    · exact ⟨k1, k2, fun n m => absurd m (rmem_none c2), fun l h s k p _ => k4 l h s k p p⟩
  · rcases pb with ⟨c2, rfl, rfl, rfl⟩ | ⟨c2, rfl, rfl, rfl⟩
    · exact ⟨k1, fun n m => absurd m (rmem_none c1), k3, fun l h s k _ p => k4 l h s k p p⟩
    · exact ⟨k1, fun n m => absurd m (rmem_none c1), k3, fun l h s k _ p => k4 l h s k p p⟩

set_option maxRecDepth 100000 in
set_option maxHeartbeats 3200000 in
theorem refHull_ok (l1 h1 s1 l2 h2 s2 : Int) (w : World) (hA : Hid (chk l1 h1 s1 = 0)) (hB : Hid (chk l2 h2 s2 = 0)) :
    Calls Try.prog 45 #[.agg #[.int .i64 l1, .int .i64 h1, .int .i64 s1], .agg #[.int .i64 l2, .int .i64 h2, .int .i64 s2]] w (HullDir l1 h1 s1 l2 h2 s2 w) := by
  go_enter Try.func45, Try.ntmps45
  go_wp2_with fail
  refine (refCheck_ok _ _ _ _ hA).mono ?_
  rintro e w1 ⟨rfl, hb1⟩
  have T1 := Lib.hid (T3.new hb1)
  clear hb1
  have x0 := T1.out.a.c0
  have x1 := T1.out.a.c1
  have x2 := T1.out.a.c2
  have y0 := T1.out.b.c0
  have y1 := T1.out.b.c1
  have y2 := T1.out.b.c2
  go_wp2_with fail
  refine (refCheck_ok _ _ _ _ hB).mono ?_
  rintro e w2 ⟨rfl, hb2⟩
  have T2 := Lib.hid (T1.out.keep hb2)
  clear hb2 T1
  clear x0 x1 x2 y0 y1 y2
  have x0 := T2.out.a.c0
  have x1 := T2.out.a.c1
  have x2 := T2.out.a.c2
  have y0 := T2.out.b.c0
  have y1 := T2.out.b.c1
  have y2 := T2.out.b.c2
  have xf0 := T2.out.a.f0
  have xf1 := T2.out.a.f1
  have xf2 := T2.out.a.f2
  go_wp2_with fail
  refine (refIsEmpty_any _ _ _ _).mono ?_
  rintro e w3 ⟨rfl, hb3⟩
  have T := Lib.hid (T2.out.keep hb3)
  clear hb3 T2 x0 x1 x2 y0 y1 y2 xf0 xf1 xf2
  have x0 := T.out.a.c0
  have x1 := T.out.a.c1
  have x2 := T.out.a.c2
  have y0 := T.out.b.c0
  have y1 := T.out.b.c1
  have y2 := T.out.b.c2
  have xf0 := T.out.a.f0
  have xf1 := T.out.a.f1
  have xf2 := T.out.a.f2
  go_upto_if 22 with fail
  go_cut [5] (fun s5 wx => s5 = .int .i64 0 ∧ ∃ a1 a2 a3 : Int, Sub1 l1 h1 s1 l2 h2 s2 a1 a2 a3 ∧ T3 w a1 a2 a3 l2 h2 s2 wx)
  case first =>
    by_cases c : l1 ≤ h1
    · have C := Lib.hid c
      rw [show reqB l1 h1 s1 1 0 1 = false by unfold reqB; simp; omega]
      clear c
      go_wp2_with fail
      go_meet
      exact ⟨rfl, l1, h1, s1, Or.inl ⟨C.out, rfl, rfl, rfl⟩, T.out⟩
    · have C := Lib.hid c
      rw [show reqB l1 h1 s1 1 0 1 = true by have e0 := le_of_chk hA.out c; unfold reqB; simp; omega]
      clear c
      go_wp2_with fail
      go_meet
      exact ⟨rfl, l2, h2, s2, Or.inr ⟨by have := C.out; omega, rfl, rfl, rfl⟩, T.out.seta⟩
  case rest =>
    obtain ⟨rfl, a1, a2, a3, pa, t3⟩ := hcut
    have PA := Lib.hid pa
    have CA := pa.chk hA.out hB.out
    have T3' := Lib.hid t3
    clear pa t3 T
    clear x0 x1 x2 y0 y1 y2
    clear xf0 xf1 xf2
    have x0 := T3'.out.a.c0
    have x1 := T3'.out.a.c1
    have x2 := T3'.out.a.c2
    have y0 := T3'.out.b.c0
    have y1 := T3'.out.b.c1
    have y2 := T3'.out.b.c2
    have yf0 := T3'.out.b.f0
    have yf1 := T3'.out.b.f1
    have yf2 := T3'.out.b.f2
    go_wp2_with fail
    refine (refIsEmpty_any _ _ _ _).mono ?_
    rintro e w4 ⟨rfl, hb4⟩
    have T := Lib.hid (T3'.out.keep hb4)
    clear hb4 T3' x0 x1 x2 y0 y1 y2 yf0 yf1 yf2
    have x0 := T.out.a.c0
    have x1 := T.out.a.c1
    have x2 := T.out.a.c2
    have y0 := T.out.b.c0
    have y1 := T.out.b.c1
    have y2 := T.out.b.c2
    have yf0 := T.out.b.f0
    have yf1 := T.out.b.f1
    have yf2 := T.out.b.f2
    go_upto_if 25 with fail
    go_cut [5] (fun s5 wx => s5 = .int .i64 0 ∧ ∃ b1 b2 b3 : Int, Sub1 l2 h2 s2 a1 a2 a3 b1 b2 b3 ∧ T3 w a1 a2 a3 b1 b2 b3 wx)
    case first =>
      by_cases c : l2 ≤ h2
      · have C := Lib.hid c
        rw [show reqB l2 h2 s2 1 0 1 = false by unfold reqB; simp; omega]
        clear c
        go_wp2_with fail
        go_meet
        exact ⟨rfl, l2, h2, s2, Or.inl ⟨C.out, rfl, rfl, rfl⟩, T.out⟩
      · have C := Lib.hid c
        rw [show reqB l2 h2 s2 1 0 1 = true by have e0 := le_of_chk hB.out c; unfold reqB; simp; omega]
        clear c
        go_wp2_with fail
        go_meet
        exact ⟨rfl, a1, a2, a3, Or.inr ⟨by have := C.out; omega, rfl, rfl, rfl⟩, T.out.setb⟩
    case rest =>
      obtain ⟨rfl, b1, b2, b3, pb, t4⟩ := hcut
      have PB := Lib.hid pb
      have CB := pb.chk hB.out CA
      have bA := chk_bounds CA
      have bB := chk_bounds CB
      have HCA := Lib.hid CA
      have HCB := Lib.hid CB
      have T4 := Lib.hid t4
      clear pb t4 T CA CB
      clear x0 x1 x2 y0 y1 y2
      clear yf0 yf1 yf2
      have x0 := T4.out.a.c0
      have x1 := T4.out.a.c1
      have x2 := T4.out.a.c2
      have y0 := T4.out.b.c0
      have y1 := T4.out.b.c1
      have y2 := T4.out.b.c2
      have r0 := T4.out.r.c0
      have rf0 := T4.out.r.f0
      have r1 := T4.out.r.c1
      have rf1 := T4.out.r.f1
      have r2 := T4.out.r.c2
      have rf2 := T4.out.r.f2
      go_wp2_with fail
      refine (refIsEmpty_any _ _ _ _).mono ?_
      rintro e w5 ⟨rfl, hb5⟩
      have T5 := Lib.hid (T4.out.keep hb5)
      clear hb5 T4 r0 r1 r2 rf0 rf1 rf2
      clear x0 x1 x2 y0 y1 y2
      have x0 := T5.out.a.c0
      have x1 := T5.out.a.c1
      have x2 := T5.out.a.c2
      have y0 := T5.out.b.c0
      have y1 := T5.out.b.c1
      have y2 := T5.out.b.c2
      have r0 := T5.out.r.c0
      have rf0 := T5.out.r.f0
      have r1 := T5.out.r.c1
      have rf1 := T5.out.r.f1
      have r2 := T5.out.r.c2
      have rf2 := T5.out.r.f2
      by_cases ca : a1 ≤ a2
      · have cb : Hid (b1 ≤ b2) := Lib.hid (by
          rcases PB.out with ⟨c, rfl, rfl, rfl⟩ | ⟨_, rfl, rfl, rfl⟩ <;> assumption)
        have e1 : reqB a1 a2 a3 1 0 1 = false := by unfold reqB; simp; omega
        have j0 : IntKind.i64.wrap (a1 - b1) = a1 - b1 := IntWalk.i64_in _ (by omega)
        clear r0 r1 r2 rf0 rf1 rf2
        go_upto_if 36 with fail
        go_cut [8] (fun s8 wx => ∃ g : Int, s8 = .int .i64 g ∧ (0 ≤ g ∧ g ≤ 2000000 ∧ g = magA (a1 - b1)) ∧ T3 w a1 a2 a3 b1 b2 b3 wx)
        case first =>
          by_cases c : a1 - b1 < 0
          · have j1 : IntKind.i64.wrap (-(a1 - b1)) = -(a1 - b1) := IntWalk.i64_in _ (by omega)
            go_wp2_with fail
            go_meet
            exact ⟨-(a1 - b1), rfl, ⟨by omega, by omega, (magA_neg c).symm⟩, T5.out⟩
          · go_wp2_with fail
            go_meet
            exact ⟨a1 - b1, rfl, ⟨by omega, by omega, (magA_pos (by omega)).symm⟩, T5.out⟩
        case rest =>
          obtain ⟨g0, rfl, ⟨g00, g01, hg⟩, t6⟩ := hcut
          have HG := Lib.hid hg
          have T6 := Lib.hid t6
          clear hg t6 T5
          clear x0 x1 x2 y0 y1 y2
          have x0 := T6.out.a.c0
          have x1 := T6.out.a.c1
          have x2 := T6.out.a.c2
          have y0 := T6.out.b.c0
          have y1 := T6.out.b.c1
          have y2 := T6.out.b.c2
          go_upto_if 43 with fail
          go_cut [8] (fun s8 wx => ∃ g : Int, s8 = .int .i64 g ∧ Hid (g = gN a1 a2 (magA a3) g0) ∧ T3 w a1 a2 a3 b1 b2 b3 wx)
          case first =>
            by_cases c : a1 < a2
            · go_wp2_with fail
              refine (refStep_any _ _ _ _ (by omega) (by omega)).mono ?_
              rintro e w6 ⟨rfl, hb6⟩
              have T := Lib.hid (T6.out.keep hb6)
              clear hb6
              clear x0 x1 x2 y0 y1 y2
              have x0 := T.out.a.c0
              have x1 := T.out.a.c1
              have x2 := T.out.a.c2
              have y0 := T.out.b.c0
              have y1 := T.out.b.c1
              have y2 := T.out.b.c2
              go_wp2_with fail
              refine (refGcd_any _ _ (gN a1 a2 (magA a3) g0) _ (by omega) (by omega) (by omega) (by omega) (Lib.hid (by unfold gN; rw [if_pos c]))).mono ?_
              rintro e w7 ⟨rfl, hb7⟩
              have T7 := Lib.hid (T.out.keep hb7)
              clear hb7
              go_wp2_with fail
              go_meet
              exact ⟨_, rfl, Lib.hid rfl, T7.out⟩
            · go_wp2_with fail
              go_meet
              exact ⟨g0, rfl, Lib.hid (by unfold gN; rw [if_neg (by omega)]), T6.out⟩
          case rest =>
            obtain ⟨g1, rfl, hg1, t7⟩ := hcut
            have G1 := gN_facts (lo := a1) (hi := a2) (m := magA a3) (g := g0) (by omega) (by omega) (by omega) (by omega)
            rw [← hg1.out] at G1
            have g10 := G1.1
            have g11 := G1.2.1
            have HG1 := Lib.hid G1
            have T7 := Lib.hid t7
            clear t7 T6 G1
            clear x0 x1 x2 y0 y1 y2
            have x0 := T7.out.a.c0
            have x1 := T7.out.a.c1
            have x2 := T7.out.a.c2
            have y0 := T7.out.b.c0
            have y1 := T7.out.b.c1
            have y2 := T7.out.b.c2
            go_upto_if 52 with fail
            go_cut [8] (fun s8 wx => ∃ g : Int, s8 = .int .i64 g ∧ Hid (g = gN b1 b2 (magA b3) g1) ∧ T3 w a1 a2 a3 b1 b2 b3 wx)
            case first =>
              by_cases c : b1 < b2
              · go_wp2_with fail
                refine (refStep_any _ _ _ _ (by omega) (by omega)).mono ?_
                rintro e w6 ⟨rfl, hb6⟩
                have T := Lib.hid (T7.out.keep hb6)
                clear hb6
                clear x0 x1 x2 y0 y1 y2
                have x0 := T.out.a.c0
                have x1 := T.out.a.c1
                have x2 := T.out.a.c2
                have y0 := T.out.b.c0
                have y1 := T.out.b.c1
                have y2 := T.out.b.c2
                go_wp2_with fail
                refine (refGcd_any _ _ (gN b1 b2 (magA b3) g1) _ (by omega) (by omega) (by omega) (by omega) (Lib.hid (by unfold gN; rw [if_pos c]))).mono ?_
                rintro e w7 ⟨rfl, hb7⟩
                have T7 := Lib.hid (T.out.keep hb7)
                clear hb7
                go_wp2_with fail
                go_meet
                exact ⟨_, rfl, Lib.hid rfl, T7.out⟩
              · go_wp2_with fail
                go_meet
                exact ⟨g1, rfl, Lib.hid (by unfold gN; rw [if_neg (by omega)]), T7.out⟩
            case rest =>
              obtain ⟨g2, rfl, hg2, t8⟩ := hcut
              have G2 := gN_facts (lo := b1) (hi := b2) (m := magA b3) (g := g1) (by omega) (by omega) (by omega) (by omega)
              rw [← hg2.out] at G2
              have g20 := G2.1
              have g21 := G2.2.1
              have HG2 := Lib.hid G2
              have T8 := Lib.hid t8
              have HU : Hid (∀ lo hi, lo = min a1 b1 → hi = max a2 b2 → HullOk l1 h1 s1 l2 h2 s2 (nL lo hi) (nH lo hi) (nS lo hi g2 false)) := Lib.hid (fun lo hi e1 e2 => hull_subst PA.out PB.out (by
                obtain ⟨p1, p2, p3, p4, p5⟩ := HG1.out
                obtain ⟨q1, q2, q3, q4, q5⟩ := HG2.out
                refine hull_ok HCA.out ca HCB.out cb.out q1 (fun c => Int.dvd_trans q3 (p4 c)) q4 (magA_dvd.1 (HG.out ▸ Int.dvd_trans q3 p3)) (fun e ea eb ed => q5 e (p5 e (HG.out ▸ magA_dvd.2 ed) ea) eb) e1 e2))
              clear t8 T7 G2
              clear x0 x1 x2 y0 y1 y2
              have x0 := T8.out.a.c0
              have x1 := T8.out.a.c1
              have x2 := T8.out.a.c2
              have y0 := T8.out.b.c0
              have y1 := T8.out.b.c1
              have y2 := T8.out.b.c2
              by_cases c1 : a1 ≤ b1
              · by_cases c2 : a2 < b2
                · go_wp2_with fail
                  refine (refNormal_any _ _ _ _ _ (by omega) (by omega)).mono ?_
                  rintro e w9 ⟨rfl, hb9⟩
                  have T9 := Lib.hid (T8.out.keep hb9)
                  clear hb9
                  clear x0 x1 x2 y0 y1 y2
                  have r0 := T9.out.r.c0
                  have rf0 := T9.out.r.f0
                  have r1 := T9.out.r.c1
                  have rf1 := T9.out.r.f1
                  have r2 := T9.out.r.c2
                  have rf2 := T9.out.r.f2
                  go_wp2
                  refine bodyPost_ret (v := .tuple #[.agg #[.int .i64 (nL a1 b2), .int .i64 (nH a1 b2), .int .i64 (nS a1 b2 g2 false)], .int .i64 0]) (by simp [results, Try.results45, go_sem, *]) rfl ⟨_, _, _, ⟨HU.out _ _ (by omega) (by omega), nS_asc (by omega)⟩, rfl, ?_⟩
                  repeat (first | exact T9.out.below | refine Below.setCell ?_ (by simp; try omega) _)
                · go_wp2_with fail
                  refine (refNormal_any _ _ _ _ _ (by omega) (by omega)).mono ?_
                  rintro e w9 ⟨rfl, hb9⟩
                  have T9 := Lib.hid (T8.out.keep hb9)
                  clear hb9
                  clear x0 x1 x2 y0 y1 y2
                  have r0 := T9.out.r.c0
                  have rf0 := T9.out.r.f0
                  have r1 := T9.out.r.c1
                  have rf1 := T9.out.r.f1
                  have r2 := T9.out.r.c2
                  have rf2 := T9.out.r.f2
                  go_wp2
                  refine bodyPost_ret (v := .tuple #[.agg #[.int .i64 (nL a1 a2), .int .i64 (nH a1 a2), .int .i64 (nS a1 a2 g2 false)], .int .i64 0]) (by simp [results, Try.results45, go_sem, *]) rfl ⟨_, _, _, ⟨HU.out _ _ (by omega) (by omega), nS_asc (by omega)⟩, rfl, ?_⟩
                  repeat (first | exact T9.out.below | refine Below.setCell ?_ (by simp; try omega) _)
              · by_cases c2 : a2 < b2
                · go_wp2_with fail
                  refine (refNormal_any _ _ _ _ _ (by omega) (by omega)).mono ?_
                  rintro e w9 ⟨rfl, hb9⟩
                  have T9 := Lib.hid (T8.out.keep hb9)
                  clear hb9
                  clear x0 x1 x2 y0 y1 y2
                  have r0 := T9.out.r.c0
                  have rf0 := T9.out.r.f0
                  have r1 := T9.out.r.c1
                  have rf1 := T9.out.r.f1
                  have r2 := T9.out.r.c2
                  have rf2 := T9.out.r.f2
                  go_wp2
                  refine bodyPost_ret (v := .tuple #[.agg #[.int .i64 (nL b1 b2), .int .i64 (nH b1 b2), .int .i64 (nS b1 b2 g2 false)], .int .i64 0]) (by simp [results, Try.results45, go_sem, *]) rfl ⟨_, _, _, ⟨HU.out _ _ (by omega) (by omega), nS_asc (by omega)⟩, rfl, ?_⟩
                  repeat (first | exact T9.out.below | refine Below.setCell ?_ (by simp; try omega) _)
                · go_wp2_with fail
                  refine (refNormal_any _ _ _ _ _ (by omega) (by omega)).mono ?_
                  rintro e w9 ⟨rfl, hb9⟩
                  have T9 := Lib.hid (T8.out.keep hb9)
                  clear hb9
                  clear x0 x1 x2 y0 y1 y2
                  have r0 := T9.out.r.c0
                  have rf0 := T9.out.r.f0
                  have r1 := T9.out.r.c1
                  have rf1 := T9.out.r.f1
                  have r2 := T9.out.r.c2
                  have rf2 := T9.out.r.f2
                  go_wp2
                  refine bodyPost_ret (v := .tuple #[.agg #[.int .i64 (nL b1 a2), .int .i64 (nH b1 a2), .int .i64 (nS b1 a2 g2 false)], .int .i64 0]) (by simp [results, Try.results45, go_sem, *]) rfl ⟨_, _, _, ⟨HU.out _ _ (by omega) (by omega), nS_asc (by omega)⟩, rfl, ?_⟩
                  repeat (first | exact T9.out.below | refine Below.setCell ?_ (by simp; try omega) _)
      · have rs5 := T5.out.r.size
        have HU : Hid (HullOk l1 h1 s1 l2 h2 s2 1 0 1) := Lib.hid <| hull_subst PA.out PB.out ⟨by decide, fun n m => absurd m (rmem_none ca), fun n m => by
          rcases PB.out with ⟨c, rfl, rfl, rfl⟩ | ⟨_, rfl, rfl, rfl⟩
          · rcases PA.out with ⟨c', rfl, rfl, rfl⟩ | ⟨_, rfl, rfl, rfl⟩
            · exact absurd c' ca
            · exact absurd c ca
          · exact absurd m (rmem_none ca), fun l h s _ _ _ n m => absurd m (rmem_none (by omega))⟩
        have e1 : reqB a1 a2 a3 1 0 1 = true := by have e0 := le_of_chk HCA.out ca; unfold reqB; simp; omega
        go_wp2_with fail
        refine (refEmpty_any _).mono ?_
        rintro e w' ⟨rfl, rfl⟩
        go_wp2_with fail
        refine bodyPost_ret (v := .tuple #[.agg #[.int .i64 1, .int .i64 0, .int .i64 1], .int .i64 0]) (by simp [results, Try.results45, go_sem, *]) rfl ⟨1, 0, 1, ⟨HU.out, fun c => by omega⟩, rfl, ?_⟩
        repeat (first | exact T5.out.below | refine Below.alloc ?_ (by simp [World.setCell]; omega) _ | refine Below.setCell ?_ (by simp; try omega) _)
end Go.Proofs.Ytdifilndpilboaa
