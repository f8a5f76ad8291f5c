/-
  The walk of the law SpanPairs: it returns true for any two ranges, and no block that was there before has changed.
-/
import Derived.Test.YtjmhabdjepkcgaaSubF
import Derived.Test.YtjmhabdjepkcgaaLawOf
import Derived.WalkKit
import Derived.Deep.RegionWith
import Derived.Deep.DeepCutAuto
import Derived.Deep.LoopGhost
import Derived.Deep.CutBlock
import Derived.WalkSpells
import Derived.WalkLawsBesides
import Derived.BigQuiet
import Derived.Deep.QuietTactic
import Derived.Deep.RegionHeld3
import Derived.Deep.DrawnRows
import Derived.Lib.Hide
namespace Go.Proofs.Ytjmhabdjepkcgaa
open Go.RowKit Go.Op

theorem chk2_zero {l1 h1 s1 l2 h2 s2 : Int} (h : chk2 l1 h1 s1 l2 h2 s2 = 0) : chk l1 h1 s1 = 0 ∧ chk l2 h2 s2 = 0 := by
  unfold chk2 at h
  split at h
  · rename_i c; exact ⟨c, h⟩
  · rename_i c; exact absurd h c
/-- what both functions of a pair return -/
def IntP (l1 h1 s1 l2 h2 s2 a b c er : Int) : Prop := (¬ chk2 l1 h1 s1 l2 h2 s2 = 0 ∧ a = 0 ∧ b = 0 ∧ c = 0 ∧ er = chk2 l1 h1 s1 l2 h2 s2) ∨ (chk2 l1 h1 s1 l2 h2 s2 = 0 ∧ InterF l1 h1 s1 l2 h2 s2 a b c ∧ er = 0)
theorem interF_unique {l1 h1 s1 l2 h2 s2 a b c a' b' c' : Int} (h : InterF l1 h1 s1 l2 h2 s2 a b c) (h' : InterF l1 h1 s1 l2 h2 s2 a' b' c') : a = a' ∧ b = b' ∧ c = c' :=
  canonS h.1 h'.1 (fun n => (h.2.1 n).trans (h'.2.1 n).symm) (fun lt => by
    have e := canon h.1 h'.1 (fun n => (h.2.1 n).trans (h'.2.1 n).symm)
    exact (h.2.2 lt).trans (h'.2.2 (by omega)).symm)
theorem intP_unique {l1 h1 s1 l2 h2 s2 a b c e a' b' c' e' : Int} (h : IntP l1 h1 s1 l2 h2 s2 a b c e) (h' : IntP l1 h1 s1 l2 h2 s2 a' b' c' e') : a = a' ∧ b = b' ∧ c = c' ∧ e = e' := by
  rcases h with ⟨n, rfl, rfl, rfl, rfl⟩ | ⟨z, h, rfl⟩
  · rcases h' with ⟨_, rfl, rfl, rfl, rfl⟩ | ⟨z, _⟩
    · exact ⟨rfl, rfl, rfl, rfl⟩
    · exact absurd z n
  · rcases h' with ⟨n, _⟩ | ⟨_, h', rfl⟩
    · exact absurd z n
    · obtain ⟨e1, e2, e3⟩ := interF_unique h h'
      exact ⟨e1, e2, e3, rfl⟩
def HullP (l1 h1 s1 l2 h2 s2 a b c er : Int) : Prop := (¬ chk2 l1 h1 s1 l2 h2 s2 = 0 ∧ a = 0 ∧ b = 0 ∧ c = 0 ∧ er = chk2 l1 h1 s1 l2 h2 s2) ∨ (chk2 l1 h1 s1 l2 h2 s2 = 0 ∧ (HullOk l1 h1 s1 l2 h2 s2 a b c ∧ (a < b → ¬ c < 0)) ∧ er = 0)
theorem hullP_unique {l1 h1 s1 l2 h2 s2 a b c e a' b' c' e' : Int} (h : HullP l1 h1 s1 l2 h2 s2 a b c e) (h' : HullP l1 h1 s1 l2 h2 s2 a' b' c' e') : a = a' ∧ b = b' ∧ c = c' ∧ e = e' := by
  rcases h with ⟨n, rfl, rfl, rfl, rfl⟩ | ⟨z, h, rfl⟩
  · rcases h' with ⟨_, rfl, rfl, rfl, rfl⟩ | ⟨z, _⟩
    · exact ⟨rfl, rfl, rfl, rfl⟩
    · exact absurd z n
  · rcases h' with ⟨n, _⟩ | ⟨_, h', rfl⟩
    · exact absurd z n
    · have m : ∀ n, RMem a b c n ↔ RMem a' b' c' n := fun n => ⟨h.1.2.2.2 a' b' c' h'.1.1 h'.1.2.1 h'.1.2.2.1 n, h'.1.2.2.2 a b c h.1.1 h.1.2.1 h.1.2.2.1 n⟩
      have e := canon h.1.1 h'.1.1 m
      obtain ⟨e1, e2, e3⟩ := canonS h.1.1 h'.1.1 m (fun lt => ⟨fun q => absurd q (h.2 lt), fun q => absurd q (h'.2 (by omega))⟩)
      exact ⟨e1, e2, e3, rfl⟩
def WithP (l1 h1 s1 l2 h2 s2 : Int) (b : Bool) (er : Int) : Prop := (¬ chk2 l1 h1 s1 l2 h2 s2 = 0 ∧ b = false ∧ er = chk2 l1 h1 s1 l2 h2 s2) ∨ (chk2 l1 h1 s1 l2 h2 s2 = 0 ∧ (b = true ↔ ∀ n, RMem l1 h1 s1 n → RMem l2 h2 s2 n) ∧ er = 0)
theorem withP_unique {l1 h1 s1 l2 h2 s2 e e' : Int} {b b' : Bool} (h : WithP l1 h1 s1 l2 h2 s2 b e) (h' : WithP l1 h1 s1 l2 h2 s2 b' e') : b = b' ∧ e = e' := by
  rcases h with ⟨n, rfl, rfl⟩ | ⟨z, h, rfl⟩
  · rcases h' with ⟨_, rfl, rfl⟩ | ⟨z, _⟩
    · exact ⟨rfl, rfl⟩
    · exact absurd z n
  · rcases h' with ⟨n, _⟩ | ⟨_, h', rfl⟩
    · exact absurd z n
    · exact ⟨Bool.eq_iff_iff.2 (h.trans h'.symm), rfl⟩
def SubQ (l1 h1 s1 l2 h2 s2 : Int) (L : List R3) (er : Int) : Prop := (¬ chk2 l1 h1 s1 l2 h2 s2 = 0 ∧ L = [] ∧ er = chk2 l1 h1 s1 l2 h2 s2) ∨ (chk2 l1 h1 s1 l2 h2 s2 = 0 ∧ ∃ l h s : Int, InterF l1 h1 s1 l2 h2 s2 l h s ∧ ((1000 < (subAll l1 h1 s1 l h s).length ∧ L = [] ∧ er = 7) ∨ ((subAll l1 h1 s1 l h s).length ≤ 1000 ∧ L = subAll l1 h1 s1 l h s ∧ er = 0)))
theorem subQ_unique {l1 h1 s1 l2 h2 s2 e e' : Int} {L L' : List R3} (h : SubQ l1 h1 s1 l2 h2 s2 L e) (h' : SubQ l1 h1 s1 l2 h2 s2 L' e') : L = L' ∧ e = e' := by
  rcases h with ⟨n, rfl, rfl⟩ | ⟨z, l, h, s, f, q⟩
  · rcases h' with ⟨_, rfl, rfl⟩ | ⟨z, _⟩
    · exact ⟨rfl, rfl⟩
    · exact absurd z n
  · rcases h' with ⟨n, _⟩ | ⟨_, l', h', s', f', q'⟩
    · exact absurd z n
    · obtain ⟨rfl, rfl, rfl⟩ := interF_unique f f'
      rcases q with ⟨q1, rfl, rfl⟩ | ⟨q1, rfl, rfl⟩
      · rcases q' with ⟨_, rfl, rfl⟩ | ⟨q2, _⟩
        · exact ⟨rfl, rfl⟩
        · omega
      · rcases q' with ⟨q2, _⟩ | ⟨_, rfl, rfl⟩
        · omega
        · exact ⟨rfl, rfl⟩
def IntAll (l1 h1 s1 l2 h2 s2 : Int) (w : World) : Ending → World → Prop := fun e w' => ∃ a b c er : Int, e = .returned (.tuple #[.agg #[.int .i64 a, .int .i64 b, .int .i64 c], .int .i64 er]) ∧ Hid (IntP l1 h1 s1 l2 h2 s2 a b c er) ∧ Below w.heap.size w w'
def HullAll (l1 h1 s1 l2 h2 s2 : Int) (w : World) : Ending → World → Prop := fun e w' => ∃ a b c er : Int, e = .returned (.tuple #[.agg #[.int .i64 a, .int .i64 b, .int .i64 c], .int .i64 er]) ∧ Hid (HullP l1 h1 s1 l2 h2 s2 a b c er) ∧ Below w.heap.size w w'
def WithAll (l1 h1 s1 l2 h2 s2 : Int) (w : World) : Ending → World → Prop := fun e w' => ∃ (b : Bool) (er : Int), e = .returned (.tuple #[.bool b, .int .i64 er]) ∧ Hid (WithP l1 h1 s1 l2 h2 s2 b er) ∧ Below w.heap.size w w'
def SubEnd (l1 h1 s1 l2 h2 s2 : Int) (w : World) : Ending → World → Prop := fun e w' => ∃ (v : Value) (er : Int) (L : List R3), e = .returned (.tuple #[v, .int .i64 er]) ∧ Hid (SubQ l1 h1 s1 l2 h2 s2 L er ∧ L.length ≤ 1000) ∧ Hid (w'.ownsRow w.heap.size 23 3 v L.length (cells3 L)) ∧ Below w.heap.size w w'
theorem subEnd_of {l1 h1 s1 l2 h2 s2 : Int} {w : World} (c : chk2 l1 h1 s1 l2 h2 s2 = 0) {e : Ending} {w' : World} (h : SubDir l1 h1 s1 l2 h2 s2 w e w') : SubEnd l1 h1 s1 l2 h2 s2 w e w' := by
  obtain ⟨l, h, s, f, v, er, he, hb, q⟩ := h
  rcases q with ⟨q1, rfl, rfl⟩ | ⟨q1, rfl, q2⟩
  · exact ⟨_, _, [], he, ⟨Or.inr ⟨c, l, h, s, f, Or.inl ⟨q1, rfl, rfl⟩⟩, by simp⟩, World.ownsRow_nil _ _ _ _, hb⟩
  · exact ⟨v, _, _, he, ⟨Or.inr ⟨c, l, h, s, f, Or.inr ⟨q1, rfl, rfl⟩⟩, q1⟩, q2, hb⟩

theorem int_all (l1 h1 s1 l2 h2 s2 : Int) (w : World) (hl1 : I64 l1) (hh1 : I64 h1) (hs1 : I64 s1) (hl2 : I64 l2) (hh2 : I64 h2) (hs2 : I64 s2) : Calls Try.prog 40 #[.agg #[.int .i64 l1, .int .i64 h1, .int .i64 s1], .agg #[.int .i64 l2, .int .i64 h2, .int .i64 s2]] w (IntAll l1 h1 s1 l2 h2 s2 w) := by
  by_cases c : chk2 l1 h1 s1 l2 h2 s2 = 0
  · obtain ⟨cA, cB⟩ := chk2_zero c
    exact (Intersect_dir l1 h1 s1 l2 h2 s2 w (Lib.hid cA) (Lib.hid cB)).mono fun e w' h => by obtain ⟨l, h, s, f, he, hb⟩ := h; exact ⟨l, h, s, 0, he, Or.inr ⟨c, f, rfl⟩, hb⟩
  · exact (Intersect_bad l1 h1 s1 l2 h2 s2 w hl1 hh1 hs1 hl2 hh2 hs2 c).mono fun e w' ⟨he, hb⟩ => ⟨0, 0, 0, _, he, Or.inl ⟨c, rfl, rfl, rfl, rfl⟩, hb⟩

theorem refInt_all (l1 h1 s1 l2 h2 s2 : Int) (w : World) (hl1 : I64 l1) (hh1 : I64 h1) (hs1 : I64 s1) (hl2 : I64 l2) (hh2 : I64 h2) (hs2 : I64 s2) : Calls Try.prog 41 #[.agg #[.int .i64 l1, .int .i64 h1, .int .i64 s1], .agg #[.int .i64 l2, .int .i64 h2, .int .i64 s2]] w (IntAll l1 h1 s1 l2 h2 s2 w) := by
  by_cases c : chk2 l1 h1 s1 l2 h2 s2 = 0
  · obtain ⟨cA, cB⟩ := chk2_zero c
    exact (refIntersect_dir l1 h1 s1 l2 h2 s2 w (Lib.hid cA) (Lib.hid cB)).mono fun e w' h => by obtain ⟨l, h, s, f, he, hb⟩ := h; exact ⟨l, h, s, 0, he, Or.inr ⟨c, f, rfl⟩, hb⟩
  · exact (refIntersect_bad l1 h1 s1 l2 h2 s2 w hl1 hh1 hs1 hl2 hh2 hs2 c).mono fun e w' ⟨he, hb⟩ => ⟨0, 0, 0, _, he, Or.inl ⟨c, rfl, rfl, rfl, rfl⟩, hb⟩

theorem sub_all (l1 h1 s1 l2 h2 s2 : Int) (w : World) (hl1 : I64 l1) (hh1 : I64 h1) (hs1 : I64 s1) (hl2 : I64 l2) (hh2 : I64 h2) (hs2 : I64 s2) : Calls Try.prog 42 #[.agg #[.int .i64 l1, .int .i64 h1, .int .i64 s1], .agg #[.int .i64 l2, .int .i64 h2, .int .i64 s2]] w (SubEnd l1 h1 s1 l2 h2 s2 w) := by
  by_cases c : chk2 l1 h1 s1 l2 h2 s2 = 0
  · obtain ⟨cA, cB⟩ := chk2_zero c
    exact (Subtract_ok l1 h1 s1 l2 h2 s2 w (Lib.hid cA) (Lib.hid cB)).mono fun e w' h => subEnd_of c h
  · exact (Subtract_bad l1 h1 s1 l2 h2 s2 w hl1 hh1 hs1 hl2 hh2 hs2 c).mono fun e w' ⟨he, hb⟩ => ⟨_, _, [], he, ⟨Or.inl ⟨c, rfl, rfl⟩, by simp⟩, World.ownsRow_nil _ _ _ _, hb⟩

theorem refSub_all (l1 h1 s1 l2 h2 s2 : Int) (w : World) (hl1 : I64 l1) (hh1 : I64 h1) (hs1 : I64 s1) (hl2 : I64 l2) (hh2 : I64 h2) (hs2 : I64 s2) : Calls Try.prog 43 #[.agg #[.int .i64 l1, .int .i64 h1, .int .i64 s1], .agg #[.int .i64 l2, .int .i64 h2, .int .i64 s2]] w (SubEnd l1 h1 s1 l2 h2 s2 w) := by
  by_cases c : chk2 l1 h1 s1 l2 h2 s2 = 0
  · obtain ⟨cA, cB⟩ := chk2_zero c
    exact (refSubtract_ok l1 h1 s1 l2 h2 s2 w (Lib.hid cA) (Lib.hid cB)).mono fun e w' h => subEnd_of c h
  · exact (refSubtract_bad l1 h1 s1 l2 h2 s2 w hl1 hh1 hs1 hl2 hh2 hs2 c).mono fun e w' ⟨he, hb⟩ => ⟨_, _, [], he, ⟨Or.inl ⟨c, rfl, rfl⟩, by simp⟩, World.ownsRow_nil _ _ _ _, hb⟩

theorem hull_all (l1 h1 s1 l2 h2 s2 : Int) (w : World) (hl1 : I64 l1) (hh1 : I64 h1) (hs1 : I64 s1) (hl2 : I64 l2) (hh2 : I64 h2) (hs2 : I64 s2) : Calls Try.prog 44 #[.agg #[.int .i64 l1, .int .i64 h1, .int .i64 s1], .agg #[.int .i64 l2, .int .i64 h2, .int .i64 s2]] w (HullAll l1 h1 s1 l2 h2 s2 w) := by
  by_cases c : chk2 l1 h1 s1 l2 h2 s2 = 0
  · obtain ⟨cA, cB⟩ := chk2_zero c
    exact (Hull_dir l1 h1 s1 l2 h2 s2 w (Lib.hid cA) (Lib.hid cB)).mono fun e w' h => by obtain ⟨l, h, s, f, he, hb⟩ := h; exact ⟨l, h, s, 0, he, Or.inr ⟨c, f, rfl⟩, hb⟩
  · exact (Hull_bad l1 h1 s1 l2 h2 s2 w hl1 hh1 hs1 hl2 hh2 hs2 c).mono fun e w' ⟨he, hb⟩ => ⟨0, 0, 0, _, he, Or.inl ⟨c, rfl, rfl, rfl, rfl⟩, hb⟩

theorem refHull_all (l1 h1 s1 l2 h2 s2 : Int) (w : World) (hl1 : I64 l1) (hh1 : I64 h1) (hs1 : I64 s1) (hl2 : I64 l2) (hh2 : I64 h2) (hs2 : I64 s2) : Calls Try.prog 45 #[.agg #[.int .i64 l1, .int .i64 h1, .int .i64 s1], .agg #[.int .i64 l2, .int .i64 h2, .int .i64 s2]] w (HullAll l1 h1 s1 l2 h2 s2 w) := by
  by_cases c : chk2 l1 h1 s1 l2 h2 s2 = 0
  · obtain ⟨cA, cB⟩ := chk2_zero c
    exact (refHull_ok l1 h1 s1 l2 h2 s2 w (Lib.hid cA) (Lib.hid cB)).mono fun e w' h => by obtain ⟨l, h, s, f, he, hb⟩ := h; exact ⟨l, h, s, 0, he, Or.inr ⟨c, f, rfl⟩, hb⟩
  · exact (refHull_bad l1 h1 s1 l2 h2 s2 w hl1 hh1 hs1 hl2 hh2 hs2 c).mono fun e w' ⟨he, hb⟩ => ⟨0, 0, 0, _, he, Or.inl ⟨c, rfl, rfl, rfl, rfl⟩, hb⟩

theorem with_all (l1 h1 s1 l2 h2 s2 : Int) (w : World) (hl1 : I64 l1) (hh1 : I64 h1) (hs1 : I64 s1) (hl2 : I64 l2) (hh2 : I64 h2) (hs2 : I64 s2) : Calls Try.prog 46 #[.agg #[.int .i64 l1, .int .i64 h1, .int .i64 s1], .agg #[.int .i64 l2, .int .i64 h2, .int .i64 s2]] w (WithAll l1 h1 s1 l2 h2 s2 w) := by
  by_cases c : chk2 l1 h1 s1 l2 h2 s2 = 0
  · obtain ⟨cA, cB⟩ := chk2_zero c
    exact (Within_ok l1 h1 s1 l2 h2 s2 w (Lib.hid cA) (Lib.hid cB)).mono fun e w' h => by obtain ⟨b, f, he, hb⟩ := h; exact ⟨b, 0, he, Or.inr ⟨c, f, rfl⟩, hb⟩
  · exact (Within_bad l1 h1 s1 l2 h2 s2 w hl1 hh1 hs1 hl2 hh2 hs2 c).mono fun e w' ⟨he, hb⟩ => ⟨false, _, he, Or.inl ⟨c, rfl, rfl⟩, hb⟩

theorem refWith_all (l1 h1 s1 l2 h2 s2 : Int) (w : World) (hl1 : I64 l1) (hh1 : I64 h1) (hs1 : I64 s1) (hl2 : I64 l2) (hh2 : I64 h2) (hs2 : I64 s2) : Calls Try.prog 47 #[.agg #[.int .i64 l1, .int .i64 h1, .int .i64 s1], .agg #[.int .i64 l2, .int .i64 h2, .int .i64 s2]] w (WithAll l1 h1 s1 l2 h2 s2 w) := by
  by_cases c : chk2 l1 h1 s1 l2 h2 s2 = 0
  · obtain ⟨cA, cB⟩ := chk2_zero c
    exact (refWithin_ok l1 h1 s1 l2 h2 s2 w (Lib.hid cA) (Lib.hid cB)).mono fun e w' h => by obtain ⟨b, f, he, hb⟩ := h; exact ⟨b, 0, he, Or.inr ⟨c, f, rfl⟩, hb⟩
  · exact (refWithin_bad l1 h1 s1 l2 h2 s2 w hl1 hh1 hs1 hl2 hh2 hs2 c).mono fun e w' ⟨he, hb⟩ => ⟨false, _, he, Or.inl ⟨c, rfl, rfl⟩, hb⟩

theorem below_al {w w1 w2 : World} {o : Obj} (h : Hid (Below w.heap.size w w1)) (hb : Below (w1.alloc o).heap.size (w1.alloc o) w2) : Hid (Below w.heap.size w w2) :=
  Lib.hid ((h.out.trans ((below_new w1 o).mono h.out.size)).trans (hb.mono (by have := h.out.size; simp; omega)))
theorem below_st {w w1 w2 : World} (h : Hid (Below w.heap.size w w1)) (hb : Below w1.heap.size w1 w2) : Hid (Below w.heap.size w w2) := Lib.hid (h.out.trans (hb.mono h.out.size))

set_option maxRecDepth 100000 in
set_option maxHeartbeats 6400000 in
theorem spanPairs_walk (l1 h1 s1 l2 h2 s2 : Int) (w : World) (hl1 : I64 l1) (hh1 : I64 h1) (hs1 : I64 s1) (hl2 : I64 l2) (hh2 : I64 h2) (hs2 : I64 s2) :
    Calls Try.prog 5 #[.agg #[.int .i64 l1, .int .i64 h1, .int .i64 s1], .agg #[.int .i64 l2, .int .i64 h2, .int .i64 s2]] w fun e w' => e = .returned (.bool true) ∧ Below w.heap.size w w' := by
  go_enter Try.func5, Try.ntmps5
  go_wp2_with fail
  refine (int_all _ _ _ _ _ _ _ hl1 hh1 hs1 hl2 hh2 hs2).mono ?_
  rintro e w1 ⟨a, b, c, er, rfl, hp1, hb1⟩
  have R1 := res22 hb1
  have W1 := Lib.hid R1.1
  have FA := Lib.hid R1.2.1
  have FB := Lib.hid R1.2.2
  clear R1 hb1
  have x0 := FA.out.c0
  have y0 := FB.out.c0
  have x1 := FA.out.c1
  have y1 := FB.out.c1
  have x2 := FA.out.c2
  have y2 := FB.out.c2
  have zA := FA.out.size
  have zB := FB.out.size
  go_wp2_with fail
  refine (refInt_all _ _ _ _ _ _ _ hl1 hh1 hs1 hl2 hh2 hs2).mono ?_
  rintro e w2 ⟨a', b', c', er', rfl, hp2, hb2⟩
  clear x0 x1 x2 y0 y1 y2 zA zB
  have W2 := below_al W1 hb2
  have FA := Lib.hid ((FA.out.keep (below_new _ _)).keep hb2)
  have FB := Lib.hid ((FB.out.keep (below_new _ _)).keep hb2)
  have FX := Lib.hid ((B3.new (.int .i64 a) (.int .i64 b) (.int .i64 c) 23 w1).keep hb2)
  clear hb2 W1
  obtain ⟨rfl, rfl, rfl, rfl⟩ := intP_unique hp1.out hp2.out
  have x0 := FA.out.c0
  have y0 := FB.out.c0
  have x1 := FA.out.c1
  have y1 := FB.out.c1
  have x2 := FA.out.c2
  have y2 := FB.out.c2
  have zA := FA.out.size
  have zB := FB.out.size
  go_wp2_with fail
  refine (sub_all _ _ _ _ _ _ _ hl1 hh1 hs1 hl2 hh2 hs2).mono ?_
  rintro e w3 ⟨v, er2, L, rfl, hp3, ho3, hb3⟩
  clear x0 x1 x2 y0 y1 y2 zA zB
  have W3 := below_al W2 hb3
  have FA := Lib.hid ((FA.out.keep (below_new _ _)).keep hb3)
  have FB := Lib.hid ((FB.out.keep (below_new _ _)).keep hb3)
  have FX := Lib.hid ((FX.out.keep (below_new _ _)).keep hb3)
  have FY := Lib.hid ((B3.new (.int .i64 a) (.int .i64 b) (.int .i64 c) 23 w2).keep hb3)
  clear hb3 W2
  have x0 := FA.out.c0
  have y0 := FB.out.c0
  have x1 := FA.out.c1
  have y1 := FB.out.c1
  have x2 := FA.out.c2
  have y2 := FB.out.c2
  have zA := FA.out.size
  have zB := FB.out.size
  go_wp2_with fail
  refine (refSub_all _ _ _ _ _ _ _ hl1 hh1 hs1 hl2 hh2 hs2).mono ?_
  rintro e w4 ⟨v', er2', L', rfl, hp4, ho4, hb4⟩
  clear x0 x1 x2 y0 y1 y2 zA zB
  have W4 := below_st W3 hb4
  have FA := Lib.hid (FA.out.keep hb4)
  have FB := Lib.hid (FB.out.keep hb4)
  have FX := Lib.hid (FX.out.keep hb4)
  have FY := Lib.hid (FY.out.keep hb4)
  have ho3 := Lib.hid (owns_below ho3.out hb4)
  clear hb4 W3
  obtain ⟨rfl, rfl⟩ := subQ_unique hp3.out.1 hp4.out.1
  have x0 := FA.out.c0
  have y0 := FB.out.c0
  have x1 := FA.out.c1
  have y1 := FB.out.c1
  have x2 := FA.out.c2
  have y2 := FB.out.c2
  have zA := FA.out.size
  have zB := FB.out.size
  go_wp2_with fail
  refine (hull_all _ _ _ _ _ _ _ hl1 hh1 hs1 hl2 hh2 hs2).mono ?_
  rintro e w5 ⟨p, q, r, er3, rfl, hp5, hb5⟩
  clear x0 x1 x2 y0 y1 y2 zA zB
  have W5 := below_st W4 hb5
  have FA := Lib.hid (FA.out.keep hb5)
  have FB := Lib.hid (FB.out.keep hb5)
  have FX := Lib.hid (FX.out.keep hb5)
  have FY := Lib.hid (FY.out.keep hb5)
  have ho3 := Lib.hid (owns_below ho3.out hb5)
  have ho4 := Lib.hid (owns_below ho4.out hb5)
  clear hb5 W4
  have x0 := FA.out.c0
  have y0 := FB.out.c0
  have x1 := FA.out.c1
  have y1 := FB.out.c1
  have x2 := FA.out.c2
  have y2 := FB.out.c2
  have zA := FA.out.size
  have zB := FB.out.size
  go_wp2_with fail
  refine (refHull_all _ _ _ _ _ _ _ hl1 hh1 hs1 hl2 hh2 hs2).mono ?_
  rintro e w6 ⟨p', q', r', er3', rfl, hp6, hb6⟩
  clear x0 x1 x2 y0 y1 y2 zA zB
  have W6 := below_al W5 hb6
  have FA := Lib.hid ((FA.out.keep (below_new _ _)).keep hb6)
  have FB := Lib.hid ((FB.out.keep (below_new _ _)).keep hb6)
  have FX := Lib.hid ((FX.out.keep (below_new _ _)).keep hb6)
  have FY := Lib.hid ((FY.out.keep (below_new _ _)).keep hb6)
  have ho3 := Lib.hid (owns_below (ho3.out.alloc _) hb6)
  have ho4 := Lib.hid (owns_below (ho4.out.alloc _) hb6)
  have FU := Lib.hid ((B3.new (.int .i64 p) (.int .i64 q) (.int .i64 r) 23 w5).keep hb6)
  clear hb6 W5
  obtain ⟨rfl, rfl, rfl, rfl⟩ := hullP_unique hp5.out hp6.out
  have x0 := FA.out.c0
  have y0 := FB.out.c0
  have x1 := FA.out.c1
  have y1 := FB.out.c1
  have x2 := FA.out.c2
  have y2 := FB.out.c2
  have zA := FA.out.size
  have zB := FB.out.size
  go_wp2_with fail
  refine (with_all _ _ _ _ _ _ _ hl1 hh1 hs1 hl2 hh2 hs2).mono ?_
  rintro e w7 ⟨o, er4, rfl, hp7, hb7⟩
  clear x0 x1 x2 y0 y1 y2 zA zB
  have W7 := below_al W6 hb7
  have FA := Lib.hid ((FA.out.keep (below_new _ _)).keep hb7)
  have FB := Lib.hid ((FB.out.keep (below_new _ _)).keep hb7)
  have FX := Lib.hid ((FX.out.keep (below_new _ _)).keep hb7)
  have FY := Lib.hid ((FY.out.keep (below_new _ _)).keep hb7)
  have FU := Lib.hid ((FU.out.keep (below_new _ _)).keep hb7)
  have ho3 := Lib.hid (owns_below (ho3.out.alloc _) hb7)
  have ho4 := Lib.hid (owns_below (ho4.out.alloc _) hb7)
  have FV := Lib.hid ((B3.new (.int .i64 p) (.int .i64 q) (.int .i64 r) 23 w6).keep hb7)
  clear hb7 W6
  have x0 := FA.out.c0
  have y0 := FB.out.c0
  have x1 := FA.out.c1
  have y1 := FB.out.c1
  have x2 := FA.out.c2
  have y2 := FB.out.c2
  have zA := FA.out.size
  have zB := FB.out.size
  go_wp2_with fail
  refine (refWith_all _ _ _ _ _ _ _ hl1 hh1 hs1 hl2 hh2 hs2).mono ?_
  rintro e w8 ⟨o', er4', rfl, hp8, hb8⟩
  clear x0 x1 x2 y0 y1 y2 zA zB
  have W8 := below_st W7 hb8
  have FA := Lib.hid (FA.out.keep hb8)
  have FB := Lib.hid (FB.out.keep hb8)
  have FX := Lib.hid (FX.out.keep hb8)
  have FY := Lib.hid (FY.out.keep hb8)
  have FU := Lib.hid (FU.out.keep hb8)
  have FV := Lib.hid (FV.out.keep hb8)
  have ho3 := Lib.hid (owns_below ho3.out hb8)
  have ho4 := Lib.hid (owns_below ho4.out hb8)
  clear hb8 W7
  obtain ⟨rfl, rfl⟩ := withP_unique hp7.out hp8.out
  have x0 := FA.out.c0
  have y0 := FB.out.c0
  have x1 := FA.out.c1
  have y1 := FB.out.c1
  have x2 := FA.out.c2
  have y2 := FB.out.c2
  have zA := FA.out.size
  have zB := FB.out.size
  clear x0 x1 x2 y0 y1 y2 zA zB
  have fx0 := FX.out.c0
  have fx1 := FX.out.c1
  have fx2 := FX.out.c2
  have zFX := FX.out.size
  have fy0 := FY.out.c0
  have fy1 := FY.out.c1
  have fy2 := FY.out.c2
  have zFY := FY.out.size
  have fu0 := FU.out.c0
  have fu1 := FU.out.c1
  have fu2 := FU.out.c2
  have zFU := FU.out.size
  have fv0 := FV.out.c0
  have fv1 := FV.out.c1
  have fv2 := FV.out.c2
  have zFV := FV.out.size
  have hq1 := eq_range a b c a b c
  rw [reqB_self] at hq1
  have hq2 := eq_range p q r p q r
  rw [reqB_self] at hq2
  go_wp2_with fail
  refine (equal_any _ _ _ _ L _ ho3.out ho4.out (by have := hp3.out.2; omega)).mono ?_
  rintro e w9 ⟨rfl, hb9⟩
  have hb9 : Below w8.heap.size w8 w9 := ⟨hb9.os, hb9.tape, hb9.output, hb9.size, hb9.block⟩
  have W9 := below_st W8 hb9
  have FU := Lib.hid (FU.out.keep hb9)
  have FV := Lib.hid (FV.out.keep hb9)
  clear fx0 fx1 fx2 fy0 fy1 fy2 fu0 fu1 fu2 fv0 fv1 fv2
  have fu0 := FU.out.c0
  have fu1 := FU.out.c1
  have fu2 := FU.out.c2
  have fv0 := FV.out.c0
  have fv1 := FV.out.c1
  have fv2 := FV.out.c2
  clear hb9
  go_wp2_with fail
  refine (awake_any _).mono ?_
  rintro e w10 ⟨rfl, hb10⟩
  have W10 := below_st W9 hb10
  have W := W10.out
  clear hb10
  go_wp2
  go_ret
  exact ⟨rfl, W⟩
end Go.Proofs.Ytjmhabdjepkcgaa
