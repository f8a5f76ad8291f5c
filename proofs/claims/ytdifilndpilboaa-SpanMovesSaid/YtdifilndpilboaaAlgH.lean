/-
  The contract of span.Hull at right ranges, up to its two progressions.
-/
import Derived.Test.YtdifilndpilboaaAlgI
import Derived.WalkKit
import Derived.WalkSpells
import Derived.WalkLawsBesides
import Derived.BigQuiet
import Derived.Deep.QuietTactic
import Derived.Deep.RegionHeld3
import Derived.Deep.DeepCutAuto
import Derived.Deep.DrawnRows
import Derived.Lib.Hide
namespace Go.Proofs.Ytdifilndpilboaa
open Go.RowKit

/-- a block of four cells that the call itself made -/
structure Blk (g : Nat) (a b c d : Value) (w : World) : Prop where
  size : g < w.heap.size
  c0 : w.cell? ⟨g, 0, none⟩ = some a
  c1 : w.cell? ⟨g, 1, none⟩ = some b
  c2 : w.cell? ⟨g, 2, none⟩ = some c
  c3 : w.cell? ⟨g, 3, none⟩ = some d
  f0 : w.frozen? ⟨g, 0, none⟩ = false
  f1 : w.frozen? ⟨g, 1, none⟩ = false
  f2 : w.frozen? ⟨g, 2, none⟩ = false
  f3 : w.frozen? ⟨g, 3, none⟩ = false
theorem Blk.keep {g : Nat} {a b c d : Value} {w w1 : World} (k : Blk g a b c d w) (hb : Below w.heap.size w w1) : Blk g a b c d w1 :=
  ⟨Nat.lt_of_lt_of_le k.size hb.size, (hb.cell (p := ⟨g, 0, none⟩) k.size).trans k.c0, (hb.cell (p := ⟨g, 1, none⟩) k.size).trans k.c1, (hb.cell (p := ⟨g, 2, none⟩) k.size).trans k.c2, (hb.cell (p := ⟨g, 3, none⟩) k.size).trans k.c3,
    (hb.frozen (p := ⟨g, 0, none⟩) k.size).trans k.f0, (hb.frozen (p := ⟨g, 1, none⟩) k.size).trans k.f1, (hb.frozen (p := ⟨g, 2, none⟩) k.size).trans k.f2, (hb.frozen (p := ⟨g, 3, none⟩) k.size).trans k.f3⟩
theorem Blk.new (a b c d : Value) (t : TypeId) (w : World) : Blk w.heap.size a b c d (w.alloc (.cells #[a, b, c, d] t)) := by
  constructor <;> simp [go_sem]
theorem below_new (w : World) (o : Obj) : Below w.heap.size w (w.alloc o) := (Below.refl _ _).alloc (Nat.le_refl _) o
/-- four stores into a block -/
def set4 (w : World) (g : Nat) (a b c d : Value) : World := (((w.setCell ⟨g, 0, none⟩ a).setCell ⟨g, 1, none⟩ b).setCell ⟨g, 2, none⟩ c).setCell ⟨g, 3, none⟩ d
theorem set4_below {B g : Nat} {w : World} (h : B ≤ g) (a b c d : Value) : Below B w (set4 w g a b c d) :=
  ((((Below.refl _ _).setCell (p := ⟨g, 0, none⟩) h a).setCell (p := ⟨g, 1, none⟩) h b).setCell (p := ⟨g, 2, none⟩) h c).setCell (p := ⟨g, 3, none⟩) h d
theorem Blk.set {g : Nat} {a b c d : Value} {w : World} (k : Blk g a b c d w) (a' b' c' d' : Value) : Blk g a' b' c' d' (set4 w g a' b' c' d') := by
  obtain ⟨s, c0, c1, c2, c3, f0, f1, f2, f3⟩ := k
  constructor
  · simp [set4, World.setCell]; exact s
  all_goals simp [set4, go_sem, *]
theorem Blk.other {g k : Nat} {a b c d : Value} {w : World} (h : Blk g a b c d w) (hne : g ≠ k) (a' b' c' d' : Value) : Blk g a b c d (set4 w k a' b' c' d') := by
  obtain ⟨s, c0, c1, c2, c3, f0, f1, f2, f3⟩ := h
  constructor
  · simp [set4, World.setCell]; exact s
  all_goals simp [set4, go_sem, *]

theorem size_val (l h s n : Int) (w : World) (hl : I64 l) (hh : I64 h) (hs : I64 s) (hn : siz l h s = n) :
    Calls Try.prog 23 #[.agg #[.int .i64 l, .int .i64 h, .int .i64 s]] w fun e w' => e = .returned (.int .i64 n) ∧ Below w.heap.size w w' :=
  (Size_any l h s w hl hh hs).mono fun _ _ ⟨he, hb⟩ => ⟨by rw [he, hn], hb⟩

/-- what Hull's own blocks keep: the ranges, the result -/
structure HuRest (w : World) (w' : World) : Prop where
  size : w.heap.size + 1 + 1 < w'.heap.size
  below : Below w.heap.size w w'
  r : w'.cell? ⟨w.heap.size + 1 + 1, 0, none⟩ = some (.int .i64 0) ∧ w'.cell? ⟨w.heap.size + 1 + 1, 1, none⟩ = some (.int .i64 0) ∧ w'.cell? ⟨w.heap.size + 1 + 1, 2, none⟩ = some (.int .i64 0)
  f : w'.frozen? ⟨w.heap.size + 1 + 1, 0, none⟩ = false ∧ w'.frozen? ⟨w.heap.size + 1 + 1, 1, none⟩ = false ∧ w'.frozen? ⟨w.heap.size + 1 + 1, 2, none⟩ = false
def HuS (w : World) (l1 h1 s1 l2 h2 s2 : Int) (w' : World) : Prop := w'.cell? ⟨w.heap.size, 0, none⟩ = some (.int .i64 l1) ∧ w'.cell? ⟨w.heap.size, 1, none⟩ = some (.int .i64 h1) ∧ w'.cell? ⟨w.heap.size, 2, none⟩ = some (.int .i64 s1) ∧
  w'.cell? ⟨w.heap.size + 1, 0, none⟩ = some (.int .i64 l2) ∧ w'.cell? ⟨w.heap.size + 1, 1, none⟩ = some (.int .i64 h2) ∧ w'.cell? ⟨w.heap.size + 1, 2, none⟩ = some (.int .i64 s2) ∧ HuRest w w'
theorem HuS.keep {w : World} {l1 h1 s1 l2 h2 s2 : Int} {w1 w2 : World} (h : HuS w l1 h1 s1 l2 h2 s2 w1) (hb : Below (w.heap.size + 3) w1 w2) : HuS w l1 h1 s1 l2 h2 s2 w2 := by
  obtain ⟨x0, x1, x2, y0, y1, y2, z, b, r, f⟩ := h
  exact ⟨(hb.cell (p := ⟨w.heap.size, 0, none⟩) (by simp)).trans x0, (hb.cell (p := ⟨w.heap.size, 1, none⟩) (by simp)).trans x1, (hb.cell (p := ⟨w.heap.size, 2, none⟩) (by simp)).trans x2,
    (hb.cell (p := ⟨w.heap.size + 1, 0, none⟩) (by simp)).trans y0, (hb.cell (p := ⟨w.heap.size + 1, 1, none⟩) (by simp)).trans y1, (hb.cell (p := ⟨w.heap.size + 1, 2, none⟩) (by simp)).trans y2,
    Nat.lt_of_lt_of_le z hb.size, b.trans (hb.mono (by omega)),
    ⟨(hb.cell (p := ⟨w.heap.size + 1 + 1, 0, none⟩) (by simp)).trans r.1, (hb.cell (p := ⟨w.heap.size + 1 + 1, 1, none⟩) (by simp)).trans r.2.1, (hb.cell (p := ⟨w.heap.size + 1 + 1, 2, none⟩) (by simp)).trans r.2.2⟩,
    ⟨(hb.frozen (p := ⟨w.heap.size + 1 + 1, 0, none⟩) (by simp)).trans f.1, (hb.frozen (p := ⟨w.heap.size + 1 + 1, 1, none⟩) (by simp)).trans f.2.1, (hb.frozen (p := ⟨w.heap.size + 1 + 1, 2, none⟩) (by simp)).trans f.2.2⟩⟩
theorem HuS.three {w : World} {l1 h1 s1 l2 h2 s2 : Int} {w1 : World} (h : HuS w l1 h1 s1 l2 h2 s2 w1) : w.heap.size + 3 ≤ w1.heap.size := by have := h.2.2.2.2.2.2.size; omega

theorem Blk.set3 {g : Nat} {a b c d : Value} {w : World} (k : Blk g a b c d w) (d' : Value) : Blk g a b c d' (w.setCell ⟨g, 3, none⟩ d') := by
  have s := k.size
  have c0 := k.c0
  have c1 := k.c1
  have c2 := k.c2
  have c3 := k.c3
  have f0 := k.f0
  have f1 := k.f1
  have f2 := k.f2
  have f3 := k.f3
  constructor
  · simp [World.setCell]; exact s
  all_goals simp [go_sem, *]
theorem set3_below {B g : Nat} {w : World} (h : B ≤ g) (d : Value) : Below B w (w.setCell ⟨g, 3, none⟩ d) := (Below.refl _ _).setCell (p := ⟨g, 3, none⟩) h d
theorem size_num {l h s : Int} (hk : chk l h s = 0) (hle : l ≤ h) : 1 ≤ siz l h s := (steps_a hk hle).2.1

/-- the least range that has two others -/
def HullOk (l1 h1 s1 l2 h2 s2 l h s : Int) : Prop := chk l h s = 0 ∧ (∀ n, RMem l1 h1 s1 n → RMem l h s n) ∧ (∀ n, RMem l2 h2 s2 n → RMem l h s n) ∧
  ∀ l' h' s', chk l' h' s' = 0 → (∀ n, RMem l1 h1 s1 n → RMem l' h' s' n) → (∀ n, RMem l2 h2 s2 n → RMem l' h' s' n) → ∀ n, RMem l h s n → RMem l' h' s' n
/-- what Hull returns -/
def HullRet (l1 h1 s1 l2 h2 s2 : Int) (w : World) : Ending → World → Prop := fun e w' => ∃ l h s : Int, HullOk l1 h1 s1 l2 h2 s2 l h s ∧ e = .returned (.tuple #[.agg #[.int .i64 l, .int .i64 h, .int .i64 s], .int .i64 0]) ∧ Below w.heap.size w w'
/-- what Hull returns, with the direction -/
def HullDir (l1 h1 s1 l2 h2 s2 : Int) (w : World) : Ending → World → Prop := fun e w' => ∃ l h s : Int, (HullOk l1 h1 s1 l2 h2 s2 l h s ∧ (l < h → ¬ s < 0)) ∧ e = .returned (.tuple #[.agg #[.int .i64 l, .int .i64 h, .int .i64 s], .int .i64 0]) ∧ Below w.heap.size w w'
theorem nS_asc {L H S : Int} (hS : 0 ≤ S) : nL L H < nH L H → ¬ nS L H S false < 0 := by
  unfold nL nH nS
  intro _
  split
  · omega
  · split
    · omega
    · rw [if_neg (by simp)]; omega
theorem asc_norm {l h s : Int} (hk : chk l h s = 0) : chk (nL l h) (nH l h) (nS l h (magA s) false) = 0 ∧ ∀ n, RMem (nL l h) (nH l h) (nS l h (magA s) false) n ↔ RMem l h s n := by
  have b := chk_bounds hk
  have c : Common l h (magA s) l h (magA s) l h (magA s) := by
    refine ⟨by omega, by omega, by omega, by omega, by omega, by omega, fun hle => ?_, fun n => ⟨fun hm => ⟨hm, hm⟩, fun hm => hm.1⟩⟩
    have st := (steps_a hk hle).1
    exact ⟨siz l h s - 1, by rw [st, Int.mul_comm]⟩
  obtain ⟨i1, i2⟩ := inter_norm (dn := false) hk hk c
  exact ⟨i1, fun n => (i2 n).trans ⟨fun hm => hm.1, fun hm => ⟨hm, hm⟩⟩⟩
theorem hull_left {l1 h1 s1 l2 h2 s2 : Int} (hA : chk l1 h1 s1 = 0) (_eA : l1 ≤ h1) (_hB : chk l2 h2 s2 = 0) (eB : ¬ l2 ≤ h2) : HullOk l1 h1 s1 l2 h2 s2 (nL l1 h1) (nH l1 h1) (nS l1 h1 (magA s1) false) := by
  obtain ⟨i1, i2⟩ := asc_norm hA
  exact ⟨i1, fun n hm => (i2 n).2 hm, fun n hm => absurd hm (rmem_none eB), fun l' h' s' _ a _ n hm => a n ((i2 n).1 hm)⟩
theorem hull_right {l1 h1 s1 l2 h2 s2 : Int} (_hA : chk l1 h1 s1 = 0) (eA : ¬ l1 ≤ h1) (hB : chk l2 h2 s2 = 0) : HullOk l1 h1 s1 l2 h2 s2 (nL l2 h2) (nH l2 h2) (nS l2 h2 (magA s2) false) := by
  obtain ⟨i1, i2⟩ := asc_norm hB
  exact ⟨i1, fun n hm => absurd hm (rmem_none eA), fun n hm => (i2 n).2 hm, fun l' h' s' _ _ b n hm => b n ((i2 n).1 hm)⟩

theorem gapI_bd (l h st : Int) (h1 : 0 ≤ st) (h2 : st ≤ 2000000) : 0 ≤ gapI l h st ∧ gapI l h st ≤ 2000000 := by unfold gapI; split <;> omega
theorem magA_dvd {e n : Int} : e ∣ magA n ↔ e ∣ n := by
  unfold magA; split
  · exact Int.dvd_neg
  · exact Iff.rfl
theorem hull_both {l1 h1 s1 l2 h2 s2 d1 d2 q1 q2 lo hi : Int} (hA : chk l1 h1 s1 = 0) (eA : l1 ≤ h1) (hB : chk l2 h2 s2 = 0) (eB : l2 ≤ h2) (G1 : Gcd (gapI l1 h1 (magA s1)) (gapI l2 h2 (magA s2)) d1 q1) (G2 : Gcd d1 (magA (l1 - l2)) d2 q2) (hlo : lo = min l1 l2) (hhi : hi = max h1 h2) :
    HullOk l1 h1 s1 l2 h2 s2 (nL lo hi) (nH lo hi) (nS lo hi d2 false) := by
  refine hull_ok hA eA hB eB G2.n ?_ ?_ (magA_dvd.1 G2.db) ?_ hlo hhi
  · intro c
    have := Int.dvd_trans G2.da G1.da
    unfold gapI at this; rwa [if_pos c] at this
  · intro c
    have := Int.dvd_trans G2.da G1.db
    unfold gapI at this; rwa [if_pos c] at this
  · intro e ea eb ed
    refine G2.all (G1.all ?_ ?_) (magA_dvd.2 ed)
    · unfold gapI
      by_cases c : l1 < h1
      · rw [if_pos c]; exact ea c
      · rw [if_neg c]; exact Int.dvd_zero _
    · unfold gapI
      by_cases c : l2 < h2
      · rw [if_pos c]; exact eb c
      · rw [if_neg c]; exact Int.dvd_zero _

/-- Hull's two progressions, in blocks of the call's own -/
def HuCut (w : World) (l1 h1 s1 l2 h2 s2 : Int) (g k : Nat) (wx : World) : Prop := g ≠ k ∧ w.heap.size + 3 ≤ g ∧ w.heap.size + 3 ≤ k ∧
  Blk g (.int .i64 l1) (.int .i64 h1) (.int .i64 (magA s1)) (.bool (decide (s1 < 0))) wx ∧ Blk k (.int .i64 l2) (.int .i64 h2) (.int .i64 (magA s2)) (.bool (decide (s2 < 0))) wx ∧ HuS w l1 h1 s1 l2 h2 s2 wx

set_option maxHeartbeats 12800000 in
theorem Hull_dir (l1 h1 s1 l2 h2 s2 : Int) (w : World) (hA : Hid (chk l1 h1 s1 = 0)) (hB : Hid (chk l2 h2 s2 = 0)) :
    Calls Try.prog 44 #[.agg #[.int .i64 l1, .int .i64 h1, .int .i64 s1], .agg #[.int .i64 l2, .int .i64 h2, .int .i64 s2]] w (HullDir l1 h1 s1 l2 h2 s2 w) := by
  have bA := chk_bounds hA.out
  have bB := chk_bounds hB.out
  go_enter Try.func44, Try.ntmps44
  go_upto_region 4 with (go_at_call 117; refine (checkBoth_ok _ _ _ _ _ _ _ hA hB).mono ?_; rintro e w1 ⟨rfl, hb1⟩; obtain ⟨W1, z1, ⟨x0, x1, x2⟩, ⟨y0, y1, y2⟩, r, f⟩ := res33 hb1; have HR := Lib.hid (And.intro r f); clear hb1 r f)
  have HS : HuS w l1 h1 s1 l2 h2 s2 w1.drew := ⟨x0, x1, x2, y0, y1, y2, z1, W1.out.drew, HR.out.1, HR.out.2⟩
  clear x0 x1 x2 y0 y1 y2 HR W1
  go_cut [7, 8] (fun s7 s8 wx => ∃ g k : Nat, s7 = .pointer (some ⟨g, 0, none⟩) ∧ s8 = .pointer (some ⟨k, 0, none⟩) ∧ HuCut w l1 h1 s1 l2 h2 s2 g k wx)
  case first =>
    refine wp_region_held_drew (S := (fun w' => w'.cell? ⟨w.heap.size, 0, none⟩ = some (.int .i64 l1) ∧ w'.cell? ⟨w.heap.size, 1, none⟩ = some (.int .i64 h1) ∧ w'.cell? ⟨w.heap.size, 2, none⟩ = some (.int .i64 s1) ∧ w'.cell? ⟨w.heap.size + 1, 0, none⟩ = some (.int .i64 l2) ∧ w'.cell? ⟨w.heap.size + 1, 1, none⟩ = some (.int .i64 h2) ∧ w'.cell? ⟨w.heap.size + 1, 2, none⟩ = some (.int .i64 s2) ∧ HuRest w w')) (by kernel_rfl) HS (fun hHeld => ?_)
    obtain ⟨v0, hv0⟩ : ∃ v0, v0 = w1.drew := ⟨_, rfl⟩
    rw [← hv0] at hHeld ⊢
    clear hv0
    refine wpAnyH_take (i := 0) (oi := { dst := some 18, op := Op.load 23 (Operand.tmp 2), type := 23, pos := "sets.go:56", after := #[], guard := none }) (v := ?_) rfl (by kernel_rfl) (by kernel_rfl) (by kernel_rfl) (fun _ _ _ h => h) (Or.inl ⟨by rfl, ?_⟩) (by assumption) ?_
    rotate_left
    · (intro w hSw; (try dsimp only at hSw); go_simp; first | done | with_reducible rfl)
    try simp only [Act.put, List.setIfInBounds_toArray, List.set_cons_zero, List.set_cons_succ]
    refine wpAnyH_take (i := 2) (oi := { dst := some 20, op := Op.load 23 (Operand.tmp 3), type := 23, pos := "sets.go:56", after := #[], guard := none }) (v := ?_) rfl (by kernel_rfl) (by kernel_rfl) (by kernel_rfl) (fun _ _ _ h => h) (Or.inl ⟨by rfl, ?_⟩) (by assumption) ?_
    rotate_left
    · (intro w hSw; (try dsimp only at hSw); go_simp; first | done | with_reducible rfl)
    try simp only [Act.put, List.setIfInBounds_toArray, List.set_cons_zero, List.set_cons_succ]
    refine wpAnyH_ready (rs := [1, 4, 5]) (by kernel_rfl) (by simp) ?_
    refine AllReadyH.cons (o := { dst := some 19, op := Op.call { callee := Callee.value (Operand.func 100), args := #[Operand.tmp 18], argTypes := #[23] }, type := 95, pos := "sets.go:56", after := #[{ on := 0, ground := Ground.data }], guard := none }) rfl (fun K hK => ?_) ?_
    · go_simp
      refine (open_any _ _ _ _ (by omega) (by omega)).mono ?_
      rintro e v1 ⟨rfl, hb⟩
      have hb : Below v0.heap.size v0 v1 := ⟨hb.os, hb.tape, hb.output, hb.size, hb.block⟩
      have z : v0.heap.size ≤ v1.heap.size := hb.size
      have hS : HuS w l1 h1 s1 l2 h2 s2 v1 := HuS.keep (show HuS w l1 h1 s1 l2 h2 s2 v0 from hHeld) (hb.mono (HuS.three (show HuS w l1 h1 s1 l2 h2 s2 v0 from hHeld)))
      go_wp2_with fail
      refine hK.out _ _ hS (fun hHeld => ?_)
      clear hK K hb hHeld
      have hHeld := hS
      clear hS
      try simp only [Act.put, List.setIfInBounds_toArray, List.set_cons_zero, List.set_cons_succ]
      refine wpAnyH_ready (rs := [3, 4, 5]) (by kernel_rfl) (by simp) ?_
      refine AllReadyH.cons (o := { dst := some 21, op := Op.call { callee := Callee.value (Operand.func 100), args := #[Operand.tmp 20], argTypes := #[23] }, type := 95, pos := "sets.go:56", after := #[{ on := 2, ground := Ground.data }, { on := 1, ground := Ground.chain }], guard := none }) rfl (fun K hK => ?_) ?_
      · go_simp
        refine (open_any _ _ _ _ (by omega) (by omega)).mono ?_
        rintro e v2 ⟨rfl, hb⟩
        have hb : Below v1.heap.size v1 v2 := ⟨hb.os, hb.tape, hb.output, hb.size, hb.block⟩
        have z : v1.heap.size ≤ v2.heap.size := hb.size
        have hS : HuS w l1 h1 s1 l2 h2 s2 v2 := HuS.keep (show HuS w l1 h1 s1 l2 h2 s2 v1 from hHeld) (hb.mono (HuS.three (show HuS w l1 h1 s1 l2 h2 s2 v1 from hHeld)))
        go_wp2_with fail
        refine hK.out _ _ hS (fun hHeld => ?_)
        clear hK K hb hHeld
        have hHeld := hS
        clear hS
        try simp only [Act.put, List.setIfInBounds_toArray, List.set_cons_zero, List.set_cons_succ]
        refine wpAnyH_ready (rs := [4, 5]) (by kernel_rfl) (by simp) ?_
        refine AllReadyH.cons (o := { dst := some 7, op := Op.alloc 95, type := 0, pos := "sets.go:56", after := #[], guard := none }) rfl (fun K hK => ?_) ?_
        · go_simp
          have hb := below_new v2 (.cells #[.int .i64 0, .int .i64 0, .int .i64 0, .bool false] 95)
          have B7 := Blk.new (.int .i64 0) (.int .i64 0) (.int .i64 0) (.bool false) 95 v2
          have K7s : w.heap.size + 3 ≤ v2.heap.size := HuS.three (show HuS w l1 h1 s1 l2 h2 s2 v2 from hHeld)
          have hS : HuS w l1 h1 s1 l2 h2 s2 (v2.alloc (.cells #[.int .i64 0, .int .i64 0, .int .i64 0, .bool false] 95)) := HuS.keep (show HuS w l1 h1 s1 l2 h2 s2 v2 from hHeld) (hb.mono K7s)
          have z : v2.heap.size ≤ (v2.alloc (.cells #[.int .i64 0, .int .i64 0, .int .i64 0, .bool false] 95)).heap.size := hb.size
          refine hK.out _ _ hS (fun hHeld => ?_)
          clear hK K hb hHeld
          generalize v2.alloc (.cells #[.int .i64 0, .int .i64 0, .int .i64 0, .bool false] 95) = v3 at *
          have hHeld := hS
          clear hS
          try simp only [Act.put, List.setIfInBounds_toArray, List.set_cons_zero, List.set_cons_succ]
          refine wpAnyH_ready (rs := [5]) (by kernel_rfl) (by simp) ?_
          refine AllReadyH.cons (o := { dst := some 8, op := Op.alloc 95, type := 0, pos := "sets.go:56", after := #[], guard := none }) rfl (fun K hK => ?_) ?_
          · go_simp
            have hb := below_new v3 (.cells #[.int .i64 0, .int .i64 0, .int .i64 0, .bool false] 95)
            have B8 := Blk.new (.int .i64 0) (.int .i64 0) (.int .i64 0) (.bool false) 95 v3
            have K78 : v2.heap.size ≠ v3.heap.size := by have := B7.size; omega
            have K8s : w.heap.size + 3 ≤ v3.heap.size := HuS.three (show HuS w l1 h1 s1 l2 h2 s2 v3 from hHeld)
            have hS : HuS w l1 h1 s1 l2 h2 s2 (v3.alloc (.cells #[.int .i64 0, .int .i64 0, .int .i64 0, .bool false] 95)) := HuS.keep (show HuS w l1 h1 s1 l2 h2 s2 v3 from hHeld) (hb.mono K8s)
            have B7 := B7.keep hb
            have z : v3.heap.size ≤ (v3.alloc (.cells #[.int .i64 0, .int .i64 0, .int .i64 0, .bool false] 95)).heap.size := hb.size
            refine hK.out _ _ hS (fun hHeld => ?_)
            clear hK K hb hHeld
            generalize v3.alloc (.cells #[.int .i64 0, .int .i64 0, .int .i64 0, .bool false] 95) = v4 at *
            have hHeld := hS
            clear hS
            try simp only [Act.put, List.setIfInBounds_toArray, List.set_cons_zero, List.set_cons_succ]
            refine wpAnyH_ready (rs := [6]) (by kernel_rfl) (by simp) ?_
            refine AllReadyH.cons (o := { dst := none, op := Op.store 95 (Operand.tmp 7) (Operand.tmp 19), type := 0, pos := "sets.go:56", after := #[{ on := 4, ground := Ground.data }, { on := 1, ground := Ground.data }, { on := 3, ground := Ground.chain }, { on := 0, ground := Ground.phase }, { on := 1, ground := Ground.phase }, { on := 2, ground := Ground.textOnly Departure.lateStores }, { on := 3, ground := Ground.textOnly Departure.lateStoresUnsure }, { on := 4, ground := Ground.phase }, { on := 5, ground := Ground.phase }], guard := none }) rfl (fun K hK => ?_) ?_
            · have c0 := B7.c0
              have c1 := B7.c1
              have c2 := B7.c2
              have c3 := B7.c3
              have f0 := B7.f0
              have f1 := B7.f1
              have f2 := B7.f2
              have f3 := B7.f3
              go_simp
              have hS : HuS w l1 h1 s1 l2 h2 s2 (set4 v4 (v2.heap.size) (.int .i64 l1) (.int .i64 h1) (.int .i64 (magA s1)) (.bool (decide (s1 < 0)))) := HuS.keep (show HuS w l1 h1 s1 l2 h2 s2 v4 from hHeld) (set4_below K7s _ _ _ _)
              have B7 := B7.set (.int .i64 l1) (.int .i64 h1) (.int .i64 (magA s1)) (.bool (decide (s1 < 0)))
              have B8 := B8.other K78.symm (.int .i64 l1) (.int .i64 h1) (.int .i64 (magA s1)) (.bool (decide (s1 < 0)))
              refine hK.out _ _ hS (fun hHeld => ?_)
              clear hK K c0 c1 c2 c3 f0 f1 f2 f3 hHeld
              have z : v4.heap.size ≤ (set4 v4 (v2.heap.size) (.int .i64 l1) (.int .i64 h1) (.int .i64 (magA s1)) (.bool (decide (s1 < 0)))).heap.size := (set4_below (B := 0) (Nat.zero_le _) _ _ _ _).size
              change wpAnyH _ _ _ _ _ _ _ _ (set4 v4 (v2.heap.size) (.int .i64 l1) (.int .i64 h1) (.int .i64 (magA s1)) (.bool (decide (s1 < 0))))
              generalize set4 v4 (v2.heap.size) (.int .i64 l1) (.int .i64 h1) (.int .i64 (magA s1)) (.bool (decide (s1 < 0))) = v5 at *
              have hHeld := hS
              clear hS
              try simp only [Act.put, List.setIfInBounds_toArray, List.set_cons_zero, List.set_cons_succ]
              refine wpAnyH_ready (rs := [7]) (by kernel_rfl) (by simp) ?_
              refine AllReadyH.cons (o := { dst := none, op := Op.store 95 (Operand.tmp 8) (Operand.tmp 21), type := 0, pos := "sets.go:56", after := #[{ on := 5, ground := Ground.data }, { on := 3, ground := Ground.data }, { on := 6, ground := Ground.chain }, { on := 0, ground := Ground.phase }, { on := 1, ground := Ground.phase }, { on := 2, ground := Ground.phase }, { on := 3, ground := Ground.phase }, { on := 4, ground := Ground.phase }, { on := 5, ground := Ground.phase }, { on := 6, ground := Ground.phase }], guard := none }) rfl (fun K hK => ?_) ?_
              · have c0 := B8.c0
                have c1 := B8.c1
                have c2 := B8.c2
                have c3 := B8.c3
                have f0 := B8.f0
                have f1 := B8.f1
                have f2 := B8.f2
                have f3 := B8.f3
                go_simp
                have hS : HuS w l1 h1 s1 l2 h2 s2 (set4 v5 (v3.heap.size) (.int .i64 l2) (.int .i64 h2) (.int .i64 (magA s2)) (.bool (decide (s2 < 0)))) := HuS.keep (show HuS w l1 h1 s1 l2 h2 s2 v5 from hHeld) (set4_below K8s _ _ _ _)
                have B8 := B8.set (.int .i64 l2) (.int .i64 h2) (.int .i64 (magA s2)) (.bool (decide (s2 < 0)))
                have B7 := B7.other K78 (.int .i64 l2) (.int .i64 h2) (.int .i64 (magA s2)) (.bool (decide (s2 < 0)))
                refine hK.out _ _ hS (fun hHeld => ?_)
                clear hK K c0 c1 c2 c3 f0 f1 f2 f3 hHeld
                have z : v5.heap.size ≤ (set4 v5 (v3.heap.size) (.int .i64 l2) (.int .i64 h2) (.int .i64 (magA s2)) (.bool (decide (s2 < 0)))).heap.size := (set4_below (B := 0) (Nat.zero_le _) _ _ _ _).size
                change wpAnyH _ _ _ _ _ _ _ _ (set4 v5 (v3.heap.size) (.int .i64 l2) (.int .i64 h2) (.int .i64 (magA s2)) (.bool (decide (s2 < 0))))
                generalize set4 v5 (v3.heap.size) (.int .i64 l2) (.int .i64 h2) (.int .i64 (magA s2)) (.bool (decide (s2 < 0))) = v6 at *
                have hHeld := hS
                clear hS
                try simp only [Act.put, List.setIfInBounds_toArray, List.set_cons_zero, List.set_cons_succ]
                refine wpAnyH_done (by kernel_rfl) ?_ _
                go_wp2_with fail
                go_meet
                exact ⟨v2.heap.size, v3.heap.size, rfl, rfl, K78, K7s, K8s, B7, B8, hHeld⟩
              exact AllReadyH.nil
            exact AllReadyH.nil
          exact AllReadyH.nil
        refine AllReadyH.cons (o := { dst := some 8, op := Op.alloc 95, type := 0, pos := "sets.go:56", after := #[], guard := none }) rfl (fun K hK => ?_) ?_
        · go_simp
          have hb := below_new v2 (.cells #[.int .i64 0, .int .i64 0, .int .i64 0, .bool false] 95)
          have B8 := Blk.new (.int .i64 0) (.int .i64 0) (.int .i64 0) (.bool false) 95 v2
          have K8s : w.heap.size + 3 ≤ v2.heap.size := HuS.three (show HuS w l1 h1 s1 l2 h2 s2 v2 from hHeld)
          have hS : HuS w l1 h1 s1 l2 h2 s2 (v2.alloc (.cells #[.int .i64 0, .int .i64 0, .int .i64 0, .bool false] 95)) := HuS.keep (show HuS w l1 h1 s1 l2 h2 s2 v2 from hHeld) (hb.mono K8s)
          have z : v2.heap.size ≤ (v2.alloc (.cells #[.int .i64 0, .int .i64 0, .int .i64 0, .bool false] 95)).heap.size := hb.size
          refine hK.out _ _ hS (fun hHeld => ?_)
          clear hK K hb hHeld
          generalize v2.alloc (.cells #[.int .i64 0, .int .i64 0, .int .i64 0, .bool false] 95) = v3 at *
          have hHeld := hS
          clear hS
          try simp only [Act.put, List.setIfInBounds_toArray, List.set_cons_zero, List.set_cons_succ]
          refine wpAnyH_ready (rs := [4]) (by kernel_rfl) (by simp) ?_
          refine AllReadyH.cons (o := { dst := some 7, op := Op.alloc 95, type := 0, pos := "sets.go:56", after := #[], guard := none }) rfl (fun K hK => ?_) ?_
          · go_simp
            have hb := below_new v3 (.cells #[.int .i64 0, .int .i64 0, .int .i64 0, .bool false] 95)
            have B7 := Blk.new (.int .i64 0) (.int .i64 0) (.int .i64 0) (.bool false) 95 v3
            have K78 : v3.heap.size ≠ v2.heap.size := by have := B8.size; omega
            have K7s : w.heap.size + 3 ≤ v3.heap.size := HuS.three (show HuS w l1 h1 s1 l2 h2 s2 v3 from hHeld)
            have hS : HuS w l1 h1 s1 l2 h2 s2 (v3.alloc (.cells #[.int .i64 0, .int .i64 0, .int .i64 0, .bool false] 95)) := HuS.keep (show HuS w l1 h1 s1 l2 h2 s2 v3 from hHeld) (hb.mono K7s)
            have B8 := B8.keep hb
            have z : v3.heap.size ≤ (v3.alloc (.cells #[.int .i64 0, .int .i64 0, .int .i64 0, .bool false] 95)).heap.size := hb.size
            refine hK.out _ _ hS (fun hHeld => ?_)
            clear hK K hb hHeld
            generalize v3.alloc (.cells #[.int .i64 0, .int .i64 0, .int .i64 0, .bool false] 95) = v4 at *
            have hHeld := hS
            clear hS
            try simp only [Act.put, List.setIfInBounds_toArray, List.set_cons_zero, List.set_cons_succ]
            refine wpAnyH_ready (rs := [6]) (by kernel_rfl) (by simp) ?_
            refine AllReadyH.cons (o := { dst := none, op := Op.store 95 (Operand.tmp 7) (Operand.tmp 19), type := 0, pos := "sets.go:56", after := #[{ on := 4, ground := Ground.data }, { on := 1, ground := Ground.data }, { on := 3, ground := Ground.chain }, { on := 0, ground := Ground.phase }, { on := 1, ground := Ground.phase }, { on := 2, ground := Ground.textOnly Departure.lateStores }, { on := 3, ground := Ground.textOnly Departure.lateStoresUnsure }, { on := 4, ground := Ground.phase }, { on := 5, ground := Ground.phase }], guard := none }) rfl (fun K hK => ?_) ?_
            · have c0 := B7.c0
              have c1 := B7.c1
              have c2 := B7.c2
              have c3 := B7.c3
              have f0 := B7.f0
              have f1 := B7.f1
              have f2 := B7.f2
              have f3 := B7.f3
              go_simp
              have hS : HuS w l1 h1 s1 l2 h2 s2 (set4 v4 (v3.heap.size) (.int .i64 l1) (.int .i64 h1) (.int .i64 (magA s1)) (.bool (decide (s1 < 0)))) := HuS.keep (show HuS w l1 h1 s1 l2 h2 s2 v4 from hHeld) (set4_below K7s _ _ _ _)
              have B7 := B7.set (.int .i64 l1) (.int .i64 h1) (.int .i64 (magA s1)) (.bool (decide (s1 < 0)))
              have B8 := B8.other K78.symm (.int .i64 l1) (.int .i64 h1) (.int .i64 (magA s1)) (.bool (decide (s1 < 0)))
              refine hK.out _ _ hS (fun hHeld => ?_)
              clear hK K c0 c1 c2 c3 f0 f1 f2 f3 hHeld
              have z : v4.heap.size ≤ (set4 v4 (v3.heap.size) (.int .i64 l1) (.int .i64 h1) (.int .i64 (magA s1)) (.bool (decide (s1 < 0)))).heap.size := (set4_below (B := 0) (Nat.zero_le _) _ _ _ _).size
              change wpAnyH _ _ _ _ _ _ _ _ (set4 v4 (v3.heap.size) (.int .i64 l1) (.int .i64 h1) (.int .i64 (magA s1)) (.bool (decide (s1 < 0))))
              generalize set4 v4 (v3.heap.size) (.int .i64 l1) (.int .i64 h1) (.int .i64 (magA s1)) (.bool (decide (s1 < 0))) = v5 at *
              have hHeld := hS
              clear hS
              try simp only [Act.put, List.setIfInBounds_toArray, List.set_cons_zero, List.set_cons_succ]
              refine wpAnyH_ready (rs := [7]) (by kernel_rfl) (by simp) ?_
              refine AllReadyH.cons (o := { dst := none, op := Op.store 95 (Operand.tmp 8) (Operand.tmp 21), type := 0, pos := "sets.go:56", after := #[{ on := 5, ground := Ground.data }, { on := 3, ground := Ground.data }, { on := 6, ground := Ground.chain }, { on := 0, ground := Ground.phase }, { on := 1, ground := Ground.phase }, { on := 2, ground := Ground.phase }, { on := 3, ground := Ground.phase }, { on := 4, ground := Ground.phase }, { on := 5, ground := Ground.phase }, { on := 6, ground := Ground.phase }], guard := none }) rfl (fun K hK => ?_) ?_
              · have c0 := B8.c0
                have c1 := B8.c1
                have c2 := B8.c2
                have c3 := B8.c3
                have f0 := B8.f0
                have f1 := B8.f1
                have f2 := B8.f2
                have f3 := B8.f3
                go_simp
                have hS : HuS w l1 h1 s1 l2 h2 s2 (set4 v5 (v2.heap.size) (.int .i64 l2) (.int .i64 h2) (.int .i64 (magA s2)) (.bool (decide (s2 < 0)))) := HuS.keep (show HuS w l1 h1 s1 l2 h2 s2 v5 from hHeld) (set4_below K8s _ _ _ _)
                have B8 := B8.set (.int .i64 l2) (.int .i64 h2) (.int .i64 (magA s2)) (.bool (decide (s2 < 0)))
                have B7 := B7.other K78 (.int .i64 l2) (.int .i64 h2) (.int .i64 (magA s2)) (.bool (decide (s2 < 0)))
                refine hK.out _ _ hS (fun hHeld => ?_)
                clear hK K c0 c1 c2 c3 f0 f1 f2 f3 hHeld
                have z : v5.heap.size ≤ (set4 v5 (v2.heap.size) (.int .i64 l2) (.int .i64 h2) (.int .i64 (magA s2)) (.bool (decide (s2 < 0)))).heap.size := (set4_below (B := 0) (Nat.zero_le _) _ _ _ _).size
                change wpAnyH _ _ _ _ _ _ _ _ (set4 v5 (v2.heap.size) (.int .i64 l2) (.int .i64 h2) (.int .i64 (magA s2)) (.bool (decide (s2 < 0))))
                generalize set4 v5 (v2.heap.size) (.int .i64 l2) (.int .i64 h2) (.int .i64 (magA s2)) (.bool (decide (s2 < 0))) = v6 at *
                have hHeld := hS
                clear hS
                try simp only [Act.put, List.setIfInBounds_toArray, List.set_cons_zero, List.set_cons_succ]
                refine wpAnyH_done (by kernel_rfl) ?_ _
                go_wp2_with fail
                go_meet
                exact ⟨v3.heap.size, v2.heap.size, rfl, rfl, K78, K7s, K8s, B7, B8, hHeld⟩
              exact AllReadyH.nil
            exact AllReadyH.nil
          exact AllReadyH.nil
        exact AllReadyH.nil
      refine AllReadyH.cons (o := { dst := some 7, op := Op.alloc 95, type := 0, pos := "sets.go:56", after := #[], guard := none }) rfl (fun K hK => ?_) ?_
      · go_simp
        have hb := below_new v1 (.cells #[.int .i64 0, .int .i64 0, .int .i64 0, .bool false] 95)
        have B7 := Blk.new (.int .i64 0) (.int .i64 0) (.int .i64 0) (.bool false) 95 v1
        have K7s : w.heap.size + 3 ≤ v1.heap.size := HuS.three (show HuS w l1 h1 s1 l2 h2 s2 v1 from hHeld)
        have hS : HuS w l1 h1 s1 l2 h2 s2 (v1.alloc (.cells #[.int .i64 0, .int .i64 0, .int .i64 0, .bool false] 95)) := HuS.keep (show HuS w l1 h1 s1 l2 h2 s2 v1 from hHeld) (hb.mono K7s)
        have z : v1.heap.size ≤ (v1.alloc (.cells #[.int .i64 0, .int .i64 0, .int .i64 0, .bool false] 95)).heap.size := hb.size
        refine hK.out _ _ hS (fun hHeld => ?_)
        clear hK K hb hHeld
        generalize v1.alloc (.cells #[.int .i64 0, .int .i64 0, .int .i64 0, .bool false] 95) = v2 at *
        have hHeld := hS
        clear hS
        try simp only [Act.put, List.setIfInBounds_toArray, List.set_cons_zero, List.set_cons_succ]
        refine wpAnyH_ready (rs := [3, 5]) (by kernel_rfl) (by simp) ?_
        refine AllReadyH.cons (o := { dst := some 21, op := Op.call { callee := Callee.value (Operand.func 100), args := #[Operand.tmp 20], argTypes := #[23] }, type := 95, pos := "sets.go:56", after := #[{ on := 2, ground := Ground.data }, { on := 1, ground := Ground.chain }], guard := none }) rfl (fun K hK => ?_) ?_
        · go_simp
          refine (open_any _ _ _ _ (by omega) (by omega)).mono ?_
          rintro e v3 ⟨rfl, hb⟩
          have hb : Below v2.heap.size v2 v3 := ⟨hb.os, hb.tape, hb.output, hb.size, hb.block⟩
          have z : v2.heap.size ≤ v3.heap.size := hb.size
          have hS : HuS w l1 h1 s1 l2 h2 s2 v3 := HuS.keep (show HuS w l1 h1 s1 l2 h2 s2 v2 from hHeld) (hb.mono (HuS.three (show HuS w l1 h1 s1 l2 h2 s2 v2 from hHeld)))
          have B7 := B7.keep hb
          go_wp2_with fail
          refine hK.out _ _ hS (fun hHeld => ?_)
          clear hK K hb hHeld
          have hHeld := hS
          clear hS
          try simp only [Act.put, List.setIfInBounds_toArray, List.set_cons_zero, List.set_cons_succ]
          refine wpAnyH_ready (rs := [5]) (by kernel_rfl) (by simp) ?_
          refine AllReadyH.cons (o := { dst := some 8, op := Op.alloc 95, type := 0, pos := "sets.go:56", after := #[], guard := none }) rfl (fun K hK => ?_) ?_
          · go_simp
            have hb := below_new v3 (.cells #[.int .i64 0, .int .i64 0, .int .i64 0, .bool false] 95)
            have B8 := Blk.new (.int .i64 0) (.int .i64 0) (.int .i64 0) (.bool false) 95 v3
            have K78 : v1.heap.size ≠ v3.heap.size := by have := B7.size; omega
            have K8s : w.heap.size + 3 ≤ v3.heap.size := HuS.three (show HuS w l1 h1 s1 l2 h2 s2 v3 from hHeld)
            have hS : HuS w l1 h1 s1 l2 h2 s2 (v3.alloc (.cells #[.int .i64 0, .int .i64 0, .int .i64 0, .bool false] 95)) := HuS.keep (show HuS w l1 h1 s1 l2 h2 s2 v3 from hHeld) (hb.mono K8s)
            have B7 := B7.keep hb
            have z : v3.heap.size ≤ (v3.alloc (.cells #[.int .i64 0, .int .i64 0, .int .i64 0, .bool false] 95)).heap.size := hb.size
            refine hK.out _ _ hS (fun hHeld => ?_)
            clear hK K hb hHeld
            generalize v3.alloc (.cells #[.int .i64 0, .int .i64 0, .int .i64 0, .bool false] 95) = v4 at *
            have hHeld := hS
            clear hS
            try simp only [Act.put, List.setIfInBounds_toArray, List.set_cons_zero, List.set_cons_succ]
            refine wpAnyH_ready (rs := [6]) (by kernel_rfl) (by simp) ?_
            refine AllReadyH.cons (o := { dst := none, op := Op.store 95 (Operand.tmp 7) (Operand.tmp 19), type := 0, pos := "sets.go:56", after := #[{ on := 4, ground := Ground.data }, { on := 1, ground := Ground.data }, { on := 3, ground := Ground.chain }, { on := 0, ground := Ground.phase }, { on := 1, ground := Ground.phase }, { on := 2, ground := Ground.textOnly Departure.lateStores }, { on := 3, ground := Ground.textOnly Departure.lateStoresUnsure }, { on := 4, ground := Ground.phase }, { on := 5, ground := Ground.phase }], guard := none }) rfl (fun K hK => ?_) ?_
            · have c0 := B7.c0
              have c1 := B7.c1
              have c2 := B7.c2
              have c3 := B7.c3
              have f0 := B7.f0
              have f1 := B7.f1
              have f2 := B7.f2
              have f3 := B7.f3
              go_simp
              have hS : HuS w l1 h1 s1 l2 h2 s2 (set4 v4 (v1.heap.size) (.int .i64 l1) (.int .i64 h1) (.int .i64 (magA s1)) (.bool (decide (s1 < 0)))) := HuS.keep (show HuS w l1 h1 s1 l2 h2 s2 v4 from hHeld) (set4_below K7s _ _ _ _)
              have B7 := B7.set (.int .i64 l1) (.int .i64 h1) (.int .i64 (magA s1)) (.bool (decide (s1 < 0)))
              have B8 := B8.other K78.symm (.int .i64 l1) (.int .i64 h1) (.int .i64 (magA s1)) (.bool (decide (s1 < 0)))
              refine hK.out _ _ hS (fun hHeld => ?_)
              clear hK K c0 c1 c2 c3 f0 f1 f2 f3 hHeld
              have z : v4.heap.size ≤ (set4 v4 (v1.heap.size) (.int .i64 l1) (.int .i64 h1) (.int .i64 (magA s1)) (.bool (decide (s1 < 0)))).heap.size := (set4_below (B := 0) (Nat.zero_le _) _ _ _ _).size
              change wpAnyH _ _ _ _ _ _ _ _ (set4 v4 (v1.heap.size) (.int .i64 l1) (.int .i64 h1) (.int .i64 (magA s1)) (.bool (decide (s1 < 0))))
              generalize set4 v4 (v1.heap.size) (.int .i64 l1) (.int .i64 h1) (.int .i64 (magA s1)) (.bool (decide (s1 < 0))) = v5 at *
              have hHeld := hS
              clear hS
              try simp only [Act.put, List.setIfInBounds_toArray, List.set_cons_zero, List.set_cons_succ]
              refine wpAnyH_ready (rs := [7]) (by kernel_rfl) (by simp) ?_
              refine AllReadyH.cons (o := { dst := none, op := Op.store 95 (Operand.tmp 8) (Operand.tmp 21), type := 0, pos := "sets.go:56", after := #[{ on := 5, ground := Ground.data }, { on := 3, ground := Ground.data }, { on := 6, ground := Ground.chain }, { on := 0, ground := Ground.phase }, { on := 1, ground := Ground.phase }, { on := 2, ground := Ground.phase }, { on := 3, ground := Ground.phase }, { on := 4, ground := Ground.phase }, { on := 5, ground := Ground.phase }, { on := 6, ground := Ground.phase }], guard := none }) rfl (fun K hK => ?_) ?_
              · have c0 := B8.c0
                have c1 := B8.c1
                have c2 := B8.c2
                have c3 := B8.c3
                have f0 := B8.f0
                have f1 := B8.f1
                have f2 := B8.f2
                have f3 := B8.f3
                go_simp
                have hS : HuS w l1 h1 s1 l2 h2 s2 (set4 v5 (v3.heap.size) (.int .i64 l2) (.int .i64 h2) (.int .i64 (magA s2)) (.bool (decide (s2 < 0)))) := HuS.keep (show HuS w l1 h1 s1 l2 h2 s2 v5 from hHeld) (set4_below K8s _ _ _ _)
                have B8 := B8.set (.int .i64 l2) (.int .i64 h2) (.int .i64 (magA s2)) (.bool (decide (s2 < 0)))
                have B7 := B7.other K78 (.int .i64 l2) (.int .i64 h2) (.int .i64 (magA s2)) (.bool (decide (s2 < 0)))
                refine hK.out _ _ hS (fun hHeld => ?_)
                clear hK K c0 c1 c2 c3 f0 f1 f2 f3 hHeld
                have z : v5.heap.size ≤ (set4 v5 (v3.heap.size) (.int .i64 l2) (.int .i64 h2) (.int .i64 (magA s2)) (.bool (decide (s2 < 0)))).heap.size := (set4_below (B := 0) (Nat.zero_le _) _ _ _ _).size
                change wpAnyH _ _ _ _ _ _ _ _ (set4 v5 (v3.heap.size) (.int .i64 l2) (.int .i64 h2) (.int .i64 (magA s2)) (.bool (decide (s2 < 0))))
                generalize set4 v5 (v3.heap.size) (.int .i64 l2) (.int .i64 h2) (.int .i64 (magA s2)) (.bool (decide (s2 < 0))) = v6 at *
                have hHeld := hS
                clear hS
                try simp only [Act.put, List.setIfInBounds_toArray, List.set_cons_zero, List.set_cons_succ]
                refine wpAnyH_done (by kernel_rfl) ?_ _
                go_wp2_with fail
                go_meet
                exact ⟨v1.heap.size, v3.heap.size, rfl, rfl, K78, K7s, K8s, B7, B8, hHeld⟩
              exact AllReadyH.nil
            exact AllReadyH.nil
          exact AllReadyH.nil
        refine AllReadyH.cons (o := { dst := some 8, op := Op.alloc 95, type := 0, pos := "sets.go:56", after := #[], guard := none }) rfl (fun K hK => ?_) ?_
        · go_simp
          have hb := below_new v2 (.cells #[.int .i64 0, .int .i64 0, .int .i64 0, .bool false] 95)
          have B8 := Blk.new (.int .i64 0) (.int .i64 0) (.int .i64 0) (.bool false) 95 v2
          have K78 : v1.heap.size ≠ v2.heap.size := by have := B7.size; omega
          have K8s : w.heap.size + 3 ≤ v2.heap.size := HuS.three (show HuS w l1 h1 s1 l2 h2 s2 v2 from hHeld)
          have hS : HuS w l1 h1 s1 l2 h2 s2 (v2.alloc (.cells #[.int .i64 0, .int .i64 0, .int .i64 0, .bool false] 95)) := HuS.keep (show HuS w l1 h1 s1 l2 h2 s2 v2 from hHeld) (hb.mono K8s)
          have B7 := B7.keep hb
          have z : v2.heap.size ≤ (v2.alloc (.cells #[.int .i64 0, .int .i64 0, .int .i64 0, .bool false] 95)).heap.size := hb.size
          refine hK.out _ _ hS (fun hHeld => ?_)
          clear hK K hb hHeld
          generalize v2.alloc (.cells #[.int .i64 0, .int .i64 0, .int .i64 0, .bool false] 95) = v3 at *
          have hHeld := hS
          clear hS
          try simp only [Act.put, List.setIfInBounds_toArray, List.set_cons_zero, List.set_cons_succ]
          refine wpAnyH_ready (rs := [3]) (by kernel_rfl) (by simp) ?_
          refine AllReadyH.cons (o := { dst := some 21, op := Op.call { callee := Callee.value (Operand.func 100), args := #[Operand.tmp 20], argTypes := #[23] }, type := 95, pos := "sets.go:56", after := #[{ on := 2, ground := Ground.data }, { on := 1, ground := Ground.chain }], guard := none }) rfl (fun K hK => ?_) ?_
          · go_simp
            refine (open_any _ _ _ _ (by omega) (by omega)).mono ?_
            rintro e v4 ⟨rfl, hb⟩
            have hb : Below v3.heap.size v3 v4 := ⟨hb.os, hb.tape, hb.output, hb.size, hb.block⟩
            have z : v3.heap.size ≤ v4.heap.size := hb.size
            have hS : HuS w l1 h1 s1 l2 h2 s2 v4 := HuS.keep (show HuS w l1 h1 s1 l2 h2 s2 v3 from hHeld) (hb.mono (HuS.three (show HuS w l1 h1 s1 l2 h2 s2 v3 from hHeld)))
            have B7 := B7.keep hb
            have B8 := B8.keep hb
            go_wp2_with fail
            refine hK.out _ _ hS (fun hHeld => ?_)
            clear hK K hb hHeld
            have hHeld := hS
            clear hS
            try simp only [Act.put, List.setIfInBounds_toArray, List.set_cons_zero, List.set_cons_succ]
            refine wpAnyH_ready (rs := [6]) (by kernel_rfl) (by simp) ?_
            refine AllReadyH.cons (o := { dst := none, op := Op.store 95 (Operand.tmp 7) (Operand.tmp 19), type := 0, pos := "sets.go:56", after := #[{ on := 4, ground := Ground.data }, { on := 1, ground := Ground.data }, { on := 3, ground := Ground.chain }, { on := 0, ground := Ground.phase }, { on := 1, ground := Ground.phase }, { on := 2, ground := Ground.textOnly Departure.lateStores }, { on := 3, ground := Ground.textOnly Departure.lateStoresUnsure }, { on := 4, ground := Ground.phase }, { on := 5, ground := Ground.phase }], guard := none }) rfl (fun K hK => ?_) ?_
            · have c0 := B7.c0
              have c1 := B7.c1
              have c2 := B7.c2
              have c3 := B7.c3
              have f0 := B7.f0
              have f1 := B7.f1
              have f2 := B7.f2
              have f3 := B7.f3
              go_simp
              have hS : HuS w l1 h1 s1 l2 h2 s2 (set4 v4 (v1.heap.size) (.int .i64 l1) (.int .i64 h1) (.int .i64 (magA s1)) (.bool (decide (s1 < 0)))) := HuS.keep (show HuS w l1 h1 s1 l2 h2 s2 v4 from hHeld) (set4_below K7s _ _ _ _)
              have B7 := B7.set (.int .i64 l1) (.int .i64 h1) (.int .i64 (magA s1)) (.bool (decide (s1 < 0)))
              have B8 := B8.other K78.symm (.int .i64 l1) (.int .i64 h1) (.int .i64 (magA s1)) (.bool (decide (s1 < 0)))
              refine hK.out _ _ hS (fun hHeld => ?_)
              clear hK K c0 c1 c2 c3 f0 f1 f2 f3 hHeld
              have z : v4.heap.size ≤ (set4 v4 (v1.heap.size) (.int .i64 l1) (.int .i64 h1) (.int .i64 (magA s1)) (.bool (decide (s1 < 0)))).heap.size := (set4_below (B := 0) (Nat.zero_le _) _ _ _ _).size
              change wpAnyH _ _ _ _ _ _ _ _ (set4 v4 (v1.heap.size) (.int .i64 l1) (.int .i64 h1) (.int .i64 (magA s1)) (.bool (decide (s1 < 0))))
              generalize set4 v4 (v1.heap.size) (.int .i64 l1) (.int .i64 h1) (.int .i64 (magA s1)) (.bool (decide (s1 < 0))) = v5 at *
              have hHeld := hS
              clear hS
              try simp only [Act.put, List.setIfInBounds_toArray, List.set_cons_zero, List.set_cons_succ]
              refine wpAnyH_ready (rs := [7]) (by kernel_rfl) (by simp) ?_
              refine AllReadyH.cons (o := { dst := none, op := Op.store 95 (Operand.tmp 8) (Operand.tmp 21), type := 0, pos := "sets.go:56", after := #[{ on := 5, ground := Ground.data }, { on := 3, ground := Ground.data }, { on := 6, ground := Ground.chain }, { on := 0, ground := Ground.phase }, { on := 1, ground := Ground.phase }, { on := 2, ground := Ground.phase }, { on := 3, ground := Ground.phase }, { on := 4, ground := Ground.phase }, { on := 5, ground := Ground.phase }, { on := 6, ground := Ground.phase }], guard := none }) rfl (fun K hK => ?_) ?_
              · have c0 := B8.c0
                have c1 := B8.c1
                have c2 := B8.c2
                have c3 := B8.c3
                have f0 := B8.f0
                have f1 := B8.f1
                have f2 := B8.f2
                have f3 := B8.f3
                go_simp
                have hS : HuS w l1 h1 s1 l2 h2 s2 (set4 v5 (v2.heap.size) (.int .i64 l2) (.int .i64 h2) (.int .i64 (magA s2)) (.bool (decide (s2 < 0)))) := HuS.keep (show HuS w l1 h1 s1 l2 h2 s2 v5 from hHeld) (set4_below K8s _ _ _ _)
                have B8 := B8.set (.int .i64 l2) (.int .i64 h2) (.int .i64 (magA s2)) (.bool (decide (s2 < 0)))
                have B7 := B7.other K78 (.int .i64 l2) (.int .i64 h2) (.int .i64 (magA s2)) (.bool (decide (s2 < 0)))
                refine hK.out _ _ hS (fun hHeld => ?_)
                clear hK K c0 c1 c2 c3 f0 f1 f2 f3 hHeld
                have z : v5.heap.size ≤ (set4 v5 (v2.heap.size) (.int .i64 l2) (.int .i64 h2) (.int .i64 (magA s2)) (.bool (decide (s2 < 0)))).heap.size := (set4_below (B := 0) (Nat.zero_le _) _ _ _ _).size
                change wpAnyH _ _ _ _ _ _ _ _ (set4 v5 (v2.heap.size) (.int .i64 l2) (.int .i64 h2) (.int .i64 (magA s2)) (.bool (decide (s2 < 0))))
                generalize set4 v5 (v2.heap.size) (.int .i64 l2) (.int .i64 h2) (.int .i64 (magA s2)) (.bool (decide (s2 < 0))) = v6 at *
                have hHeld := hS
                clear hS
                try simp only [Act.put, List.setIfInBounds_toArray, List.set_cons_zero, List.set_cons_succ]
                refine wpAnyH_done (by kernel_rfl) ?_ _
                go_wp2_with fail
                go_meet
                exact ⟨v1.heap.size, v2.heap.size, rfl, rfl, K78, K7s, K8s, B7, B8, hHeld⟩
              exact AllReadyH.nil
            exact AllReadyH.nil
          exact AllReadyH.nil
        exact AllReadyH.nil
      refine AllReadyH.cons (o := { dst := some 8, op := Op.alloc 95, type := 0, pos := "sets.go:56", after := #[], guard := none }) rfl (fun K hK => ?_) ?_
      · go_simp
        have hb := below_new v1 (.cells #[.int .i64 0, .int .i64 0, .int .i64 0, .bool false] 95)
        have B8 := Blk.new (.int .i64 0) (.int .i64 0) (.int .i64 0) (.bool false) 95 v1
        have K8s : w.heap.size + 3 ≤ v1.heap.size := HuS.three (show HuS w l1 h1 s1 l2 h2 s2 v1 from hHeld)
        have hS : HuS w l1 h1 s1 l2 h2 s2 (v1.alloc (.cells #[.int .i64 0, .int .i64 0, .int .i64 0, .bool false] 95)) := HuS.keep (show HuS w l1 h1 s1 l2 h2 s2 v1 from hHeld) (hb.mono K8s)
        have z : v1.heap.size ≤ (v1.alloc (.cells #[.int .i64 0, .int .i64 0, .int .i64 0, .bool false] 95)).heap.size := hb.size
        refine hK.out _ _ hS (fun hHeld => ?_)
        clear hK K hb hHeld
        generalize v1.alloc (.cells #[.int .i64 0, .int .i64 0, .int .i64 0, .bool false] 95) = v2 at *
        have hHeld := hS
        clear hS
        try simp only [Act.put, List.setIfInBounds_toArray, List.set_cons_zero, List.set_cons_succ]
        refine wpAnyH_ready (rs := [3, 4]) (by kernel_rfl) (by simp) ?_
        refine AllReadyH.cons (o := { dst := some 21, op := Op.call { callee := Callee.value (Operand.func 100), args := #[Operand.tmp 20], argTypes := #[23] }, type := 95, pos := "sets.go:56", after := #[{ on := 2, ground := Ground.data }, { on := 1, ground := Ground.chain }], guard := none }) rfl (fun K hK => ?_) ?_
        · go_simp
          refine (open_any _ _ _ _ (by omega) (by omega)).mono ?_
          rintro e v3 ⟨rfl, hb⟩
          have hb : Below v2.heap.size v2 v3 := ⟨hb.os, hb.tape, hb.output, hb.size, hb.block⟩
          have z : v2.heap.size ≤ v3.heap.size := hb.size
          have hS : HuS w l1 h1 s1 l2 h2 s2 v3 := HuS.keep (show HuS w l1 h1 s1 l2 h2 s2 v2 from hHeld) (hb.mono (HuS.three (show HuS w l1 h1 s1 l2 h2 s2 v2 from hHeld)))
          have B8 := B8.keep hb
          go_wp2_with fail
          refine hK.out _ _ hS (fun hHeld => ?_)
          clear hK K hb hHeld
          have hHeld := hS
          clear hS
          try simp only [Act.put, List.setIfInBounds_toArray, List.set_cons_zero, List.set_cons_succ]
          refine wpAnyH_ready (rs := [4]) (by kernel_rfl) (by simp) ?_
          refine AllReadyH.cons (o := { dst := some 7, op := Op.alloc 95, type := 0, pos := "sets.go:56", after := #[], guard := none }) rfl (fun K hK => ?_) ?_
          · go_simp
            have hb := below_new v3 (.cells #[.int .i64 0, .int .i64 0, .int .i64 0, .bool false] 95)
            have B7 := Blk.new (.int .i64 0) (.int .i64 0) (.int .i64 0) (.bool false) 95 v3
            have K78 : v3.heap.size ≠ v1.heap.size := by have := B8.size; omega
            have K7s : w.heap.size + 3 ≤ v3.heap.size := HuS.three (show HuS w l1 h1 s1 l2 h2 s2 v3 from hHeld)
            have hS : HuS w l1 h1 s1 l2 h2 s2 (v3.alloc (.cells #[.int .i64 0, .int .i64 0, .int .i64 0, .bool false] 95)) := HuS.keep (show HuS w l1 h1 s1 l2 h2 s2 v3 from hHeld) (hb.mono K7s)
            have B8 := B8.keep hb
            have z : v3.heap.size ≤ (v3.alloc (.cells #[.int .i64 0, .int .i64 0, .int .i64 0, .bool false] 95)).heap.size := hb.size
            refine hK.out _ _ hS (fun hHeld => ?_)
            clear hK K hb hHeld
            generalize v3.alloc (.cells #[.int .i64 0, .int .i64 0, .int .i64 0, .bool false] 95) = v4 at *
            have hHeld := hS
            clear hS
            try simp only [Act.put, List.setIfInBounds_toArray, List.set_cons_zero, List.set_cons_succ]
            refine wpAnyH_ready (rs := [6]) (by kernel_rfl) (by simp) ?_
            refine AllReadyH.cons (o := { dst := none, op := Op.store 95 (Operand.tmp 7) (Operand.tmp 19), type := 0, pos := "sets.go:56", after := #[{ on := 4, ground := Ground.data }, { on := 1, ground := Ground.data }, { on := 3, ground := Ground.chain }, { on := 0, ground := Ground.phase }, { on := 1, ground := Ground.phase }, { on := 2, ground := Ground.textOnly Departure.lateStores }, { on := 3, ground := Ground.textOnly Departure.lateStoresUnsure }, { on := 4, ground := Ground.phase }, { on := 5, ground := Ground.phase }], guard := none }) rfl (fun K hK => ?_) ?_
            · have c0 := B7.c0
              have c1 := B7.c1
              have c2 := B7.c2
              have c3 := B7.c3
              have f0 := B7.f0
              have f1 := B7.f1
              have f2 := B7.f2
              have f3 := B7.f3
              go_simp
              have hS : HuS w l1 h1 s1 l2 h2 s2 (set4 v4 (v3.heap.size) (.int .i64 l1) (.int .i64 h1) (.int .i64 (magA s1)) (.bool (decide (s1 < 0)))) := HuS.keep (show HuS w l1 h1 s1 l2 h2 s2 v4 from hHeld) (set4_below K7s _ _ _ _)
              have B7 := B7.set (.int .i64 l1) (.int .i64 h1) (.int .i64 (magA s1)) (.bool (decide (s1 < 0)))
              have B8 := B8.other K78.symm (.int .i64 l1) (.int .i64 h1) (.int .i64 (magA s1)) (.bool (decide (s1 < 0)))
              refine hK.out _ _ hS (fun hHeld => ?_)
              clear hK K c0 c1 c2 c3 f0 f1 f2 f3 hHeld
              have z : v4.heap.size ≤ (set4 v4 (v3.heap.size) (.int .i64 l1) (.int .i64 h1) (.int .i64 (magA s1)) (.bool (decide (s1 < 0)))).heap.size := (set4_below (B := 0) (Nat.zero_le _) _ _ _ _).size
              change wpAnyH _ _ _ _ _ _ _ _ (set4 v4 (v3.heap.size) (.int .i64 l1) (.int .i64 h1) (.int .i64 (magA s1)) (.bool (decide (s1 < 0))))
              generalize set4 v4 (v3.heap.size) (.int .i64 l1) (.int .i64 h1) (.int .i64 (magA s1)) (.bool (decide (s1 < 0))) = v5 at *
              have hHeld := hS
              clear hS
              try simp only [Act.put, List.setIfInBounds_toArray, List.set_cons_zero, List.set_cons_succ]
              refine wpAnyH_ready (rs := [7]) (by kernel_rfl) (by simp) ?_
              refine AllReadyH.cons (o := { dst := none, op := Op.store 95 (Operand.tmp 8) (Operand.tmp 21), type := 0, pos := "sets.go:56", after := #[{ on := 5, ground := Ground.data }, { on := 3, ground := Ground.data }, { on := 6, ground := Ground.chain }, { on := 0, ground := Ground.phase }, { on := 1, ground := Ground.phase }, { on := 2, ground := Ground.phase }, { on := 3, ground := Ground.phase }, { on := 4, ground := Ground.phase }, { on := 5, ground := Ground.phase }, { on := 6, ground := Ground.phase }], guard := none }) rfl (fun K hK => ?_) ?_
              · have c0 := B8.c0
                have c1 := B8.c1
                have c2 := B8.c2
                have c3 := B8.c3
                have f0 := B8.f0
                have f1 := B8.f1
                have f2 := B8.f2
                have f3 := B8.f3
                go_simp
                have hS : HuS w l1 h1 s1 l2 h2 s2 (set4 v5 (v1.heap.size) (.int .i64 l2) (.int .i64 h2) (.int .i64 (magA s2)) (.bool (decide (s2 < 0)))) := HuS.keep (show HuS w l1 h1 s1 l2 h2 s2 v5 from hHeld) (set4_below K8s _ _ _ _)
                have B8 := B8.set (.int .i64 l2) (.int .i64 h2) (.int .i64 (magA s2)) (.bool (decide (s2 < 0)))
                have B7 := B7.other K78 (.int .i64 l2) (.int .i64 h2) (.int .i64 (magA s2)) (.bool (decide (s2 < 0)))
                refine hK.out _ _ hS (fun hHeld => ?_)
                clear hK K c0 c1 c2 c3 f0 f1 f2 f3 hHeld
                have z : v5.heap.size ≤ (set4 v5 (v1.heap.size) (.int .i64 l2) (.int .i64 h2) (.int .i64 (magA s2)) (.bool (decide (s2 < 0)))).heap.size := (set4_below (B := 0) (Nat.zero_le _) _ _ _ _).size
                change wpAnyH _ _ _ _ _ _ _ _ (set4 v5 (v1.heap.size) (.int .i64 l2) (.int .i64 h2) (.int .i64 (magA s2)) (.bool (decide (s2 < 0))))
                generalize set4 v5 (v1.heap.size) (.int .i64 l2) (.int .i64 h2) (.int .i64 (magA s2)) (.bool (decide (s2 < 0))) = v6 at *
                have hHeld := hS
                clear hS
                try simp only [Act.put, List.setIfInBounds_toArray, List.set_cons_zero, List.set_cons_succ]
                refine wpAnyH_done (by kernel_rfl) ?_ _
                go_wp2_with fail
                go_meet
                exact ⟨v3.heap.size, v1.heap.size, rfl, rfl, K78, K7s, K8s, B7, B8, hHeld⟩
              exact AllReadyH.nil
            exact AllReadyH.nil
          exact AllReadyH.nil
        refine AllReadyH.cons (o := { dst := some 7, op := Op.alloc 95, type := 0, pos := "sets.go:56", after := #[], guard := none }) rfl (fun K hK => ?_) ?_
        · go_simp
          have hb := below_new v2 (.cells #[.int .i64 0, .int .i64 0, .int .i64 0, .bool false] 95)
          have B7 := Blk.new (.int .i64 0) (.int .i64 0) (.int .i64 0) (.bool false) 95 v2
          have K78 : v2.heap.size ≠ v1.heap.size := by have := B8.size; omega
          have K7s : w.heap.size + 3 ≤ v2.heap.size := HuS.three (show HuS w l1 h1 s1 l2 h2 s2 v2 from hHeld)
          have hS : HuS w l1 h1 s1 l2 h2 s2 (v2.alloc (.cells #[.int .i64 0, .int .i64 0, .int .i64 0, .bool false] 95)) := HuS.keep (show HuS w l1 h1 s1 l2 h2 s2 v2 from hHeld) (hb.mono K7s)
          have B8 := B8.keep hb
          have z : v2.heap.size ≤ (v2.alloc (.cells #[.int .i64 0, .int .i64 0, .int .i64 0, .bool false] 95)).heap.size := hb.size
          refine hK.out _ _ hS (fun hHeld => ?_)
          clear hK K hb hHeld
          generalize v2.alloc (.cells #[.int .i64 0, .int .i64 0, .int .i64 0, .bool false] 95) = v3 at *
          have hHeld := hS
          clear hS
          try simp only [Act.put, List.setIfInBounds_toArray, List.set_cons_zero, List.set_cons_succ]
          refine wpAnyH_ready (rs := [3]) (by kernel_rfl) (by simp) ?_
          refine AllReadyH.cons (o := { dst := some 21, op := Op.call { callee := Callee.value (Operand.func 100), args := #[Operand.tmp 20], argTypes := #[23] }, type := 95, pos := "sets.go:56", after := #[{ on := 2, ground := Ground.data }, { on := 1, ground := Ground.chain }], guard := none }) rfl (fun K hK => ?_) ?_
          · go_simp
            refine (open_any _ _ _ _ (by omega) (by omega)).mono ?_
            rintro e v4 ⟨rfl, hb⟩
            have hb : Below v3.heap.size v3 v4 := ⟨hb.os, hb.tape, hb.output, hb.size, hb.block⟩
            have z : v3.heap.size ≤ v4.heap.size := hb.size
            have hS : HuS w l1 h1 s1 l2 h2 s2 v4 := HuS.keep (show HuS w l1 h1 s1 l2 h2 s2 v3 from hHeld) (hb.mono (HuS.three (show HuS w l1 h1 s1 l2 h2 s2 v3 from hHeld)))
            have B7 := B7.keep hb
            have B8 := B8.keep hb
            go_wp2_with fail
            refine hK.out _ _ hS (fun hHeld => ?_)
            clear hK K hb hHeld
            have hHeld := hS
            clear hS
            try simp only [Act.put, List.setIfInBounds_toArray, List.set_cons_zero, List.set_cons_succ]
            refine wpAnyH_ready (rs := [6]) (by kernel_rfl) (by simp) ?_
            refine AllReadyH.cons (o := { dst := none, op := Op.store 95 (Operand.tmp 7) (Operand.tmp 19), type := 0, pos := "sets.go:56", after := #[{ on := 4, ground := Ground.data }, { on := 1, ground := Ground.data }, { on := 3, ground := Ground.chain }, { on := 0, ground := Ground.phase }, { on := 1, ground := Ground.phase }, { on := 2, ground := Ground.textOnly Departure.lateStores }, { on := 3, ground := Ground.textOnly Departure.lateStoresUnsure }, { on := 4, ground := Ground.phase }, { on := 5, ground := Ground.phase }], guard := none }) rfl (fun K hK => ?_) ?_
            · have c0 := B7.c0
              have c1 := B7.c1
              have c2 := B7.c2
              have c3 := B7.c3
              have f0 := B7.f0
              have f1 := B7.f1
              have f2 := B7.f2
              have f3 := B7.f3
              go_simp
              have hS : HuS w l1 h1 s1 l2 h2 s2 (set4 v4 (v2.heap.size) (.int .i64 l1) (.int .i64 h1) (.int .i64 (magA s1)) (.bool (decide (s1 < 0)))) := HuS.keep (show HuS w l1 h1 s1 l2 h2 s2 v4 from hHeld) (set4_below K7s _ _ _ _)
              have B7 := B7.set (.int .i64 l1) (.int .i64 h1) (.int .i64 (magA s1)) (.bool (decide (s1 < 0)))
              have B8 := B8.other K78.symm (.int .i64 l1) (.int .i64 h1) (.int .i64 (magA s1)) (.bool (decide (s1 < 0)))
              refine hK.out _ _ hS (fun hHeld => ?_)
              clear hK K c0 c1 c2 c3 f0 f1 f2 f3 hHeld
              have z : v4.heap.size ≤ (set4 v4 (v2.heap.size) (.int .i64 l1) (.int .i64 h1) (.int .i64 (magA s1)) (.bool (decide (s1 < 0)))).heap.size := (set4_below (B := 0) (Nat.zero_le _) _ _ _ _).size
              change wpAnyH _ _ _ _ _ _ _ _ (set4 v4 (v2.heap.size) (.int .i64 l1) (.int .i64 h1) (.int .i64 (magA s1)) (.bool (decide (s1 < 0))))
              generalize set4 v4 (v2.heap.size) (.int .i64 l1) (.int .i64 h1) (.int .i64 (magA s1)) (.bool (decide (s1 < 0))) = v5 at *
              have hHeld := hS
              clear hS
              try simp only [Act.put, List.setIfInBounds_toArray, List.set_cons_zero, List.set_cons_succ]
              refine wpAnyH_ready (rs := [7]) (by kernel_rfl) (by simp) ?_
              refine AllReadyH.cons (o := { dst := none, op := Op.store 95 (Operand.tmp 8) (Operand.tmp 21), type := 0, pos := "sets.go:56", after := #[{ on := 5, ground := Ground.data }, { on := 3, ground := Ground.data }, { on := 6, ground := Ground.chain }, { on := 0, ground := Ground.phase }, { on := 1, ground := Ground.phase }, { on := 2, ground := Ground.phase }, { on := 3, ground := Ground.phase }, { on := 4, ground := Ground.phase }, { on := 5, ground := Ground.phase }, { on := 6, ground := Ground.phase }], guard := none }) rfl (fun K hK => ?_) ?_
              · have c0 := B8.c0
                have c1 := B8.c1
                have c2 := B8.c2
                have c3 := B8.c3
                have f0 := B8.f0
                have f1 := B8.f1
                have f2 := B8.f2
                have f3 := B8.f3
                go_simp
                have hS : HuS w l1 h1 s1 l2 h2 s2 (set4 v5 (v1.heap.size) (.int .i64 l2) (.int .i64 h2) (.int .i64 (magA s2)) (.bool (decide (s2 < 0)))) := HuS.keep (show HuS w l1 h1 s1 l2 h2 s2 v5 from hHeld) (set4_below K8s _ _ _ _)
                have B8 := B8.set (.int .i64 l2) (.int .i64 h2) (.int .i64 (magA s2)) (.bool (decide (s2 < 0)))
                have B7 := B7.other K78 (.int .i64 l2) (.int .i64 h2) (.int .i64 (magA s2)) (.bool (decide (s2 < 0)))
                refine hK.out _ _ hS (fun hHeld => ?_)
                clear hK K c0 c1 c2 c3 f0 f1 f2 f3 hHeld
                have z : v5.heap.size ≤ (set4 v5 (v1.heap.size) (.int .i64 l2) (.int .i64 h2) (.int .i64 (magA s2)) (.bool (decide (s2 < 0)))).heap.size := (set4_below (B := 0) (Nat.zero_le _) _ _ _ _).size
                change wpAnyH _ _ _ _ _ _ _ _ (set4 v5 (v1.heap.size) (.int .i64 l2) (.int .i64 h2) (.int .i64 (magA s2)) (.bool (decide (s2 < 0))))
                generalize set4 v5 (v1.heap.size) (.int .i64 l2) (.int .i64 h2) (.int .i64 (magA s2)) (.bool (decide (s2 < 0))) = v6 at *
                have hHeld := hS
                clear hS
                try simp only [Act.put, List.setIfInBounds_toArray, List.set_cons_zero, List.set_cons_succ]
                refine wpAnyH_done (by kernel_rfl) ?_ _
                go_wp2_with fail
                go_meet
                exact ⟨v2.heap.size, v1.heap.size, rfl, rfl, K78, K7s, K8s, B7, B8, hHeld⟩
              exact AllReadyH.nil
            exact AllReadyH.nil
          exact AllReadyH.nil
        exact AllReadyH.nil
      exact AllReadyH.nil
    refine AllReadyH.cons (o := { dst := some 7, op := Op.alloc 95, type := 0, pos := "sets.go:56", after := #[], guard := none }) rfl (fun K hK => ?_) ?_
    · go_simp
      have hb := below_new v0 (.cells #[.int .i64 0, .int .i64 0, .int .i64 0, .bool false] 95)
      have B7 := Blk.new (.int .i64 0) (.int .i64 0) (.int .i64 0) (.bool false) 95 v0
      have K7s : w.heap.size + 3 ≤ v0.heap.size := HuS.three (show HuS w l1 h1 s1 l2 h2 s2 v0 from hHeld)
      have hS : HuS w l1 h1 s1 l2 h2 s2 (v0.alloc (.cells #[.int .i64 0, .int .i64 0, .int .i64 0, .bool false] 95)) := HuS.keep (show HuS w l1 h1 s1 l2 h2 s2 v0 from hHeld) (hb.mono K7s)
      have z : v0.heap.size ≤ (v0.alloc (.cells #[.int .i64 0, .int .i64 0, .int .i64 0, .bool false] 95)).heap.size := hb.size
      refine hK.out _ _ hS (fun hHeld => ?_)
      clear hK K hb hHeld
      generalize v0.alloc (.cells #[.int .i64 0, .int .i64 0, .int .i64 0, .bool false] 95) = v1 at *
      have hHeld := hS
      clear hS
      try simp only [Act.put, List.setIfInBounds_toArray, List.set_cons_zero, List.set_cons_succ]
      refine wpAnyH_ready (rs := [1, 5]) (by kernel_rfl) (by simp) ?_
      refine AllReadyH.cons (o := { dst := some 19, op := Op.call { callee := Callee.value (Operand.func 100), args := #[Operand.tmp 18], argTypes := #[23] }, type := 95, pos := "sets.go:56", after := #[{ on := 0, ground := Ground.data }], guard := none }) rfl (fun K hK => ?_) ?_
      · go_simp
        refine (open_any _ _ _ _ (by omega) (by omega)).mono ?_
        rintro e v2 ⟨rfl, hb⟩
        have hb : Below v1.heap.size v1 v2 := ⟨hb.os, hb.tape, hb.output, hb.size, hb.block⟩
        have z : v1.heap.size ≤ v2.heap.size := hb.size
        have hS : HuS w l1 h1 s1 l2 h2 s2 v2 := HuS.keep (show HuS w l1 h1 s1 l2 h2 s2 v1 from hHeld) (hb.mono (HuS.three (show HuS w l1 h1 s1 l2 h2 s2 v1 from hHeld)))
        have B7 := B7.keep hb
        go_wp2_with fail
        refine hK.out _ _ hS (fun hHeld => ?_)
        clear hK K hb hHeld
        have hHeld := hS
        clear hS
        try simp only [Act.put, List.setIfInBounds_toArray, List.set_cons_zero, List.set_cons_succ]
        refine wpAnyH_ready (rs := [3, 5]) (by kernel_rfl) (by simp) ?_
        refine AllReadyH.cons (o := { dst := some 21, op := Op.call { callee := Callee.value (Operand.func 100), args := #[Operand.tmp 20], argTypes := #[23] }, type := 95, pos := "sets.go:56", after := #[{ on := 2, ground := Ground.data }, { on := 1, ground := Ground.chain }], guard := none }) rfl (fun K hK => ?_) ?_
        · go_simp
          refine (open_any _ _ _ _ (by omega) (by omega)).mono ?_
          rintro e v3 ⟨rfl, hb⟩
          have hb : Below v2.heap.size v2 v3 := ⟨hb.os, hb.tape, hb.output, hb.size, hb.block⟩
          have z : v2.heap.size ≤ v3.heap.size := hb.size
          have hS : HuS w l1 h1 s1 l2 h2 s2 v3 := HuS.keep (show HuS w l1 h1 s1 l2 h2 s2 v2 from hHeld) (hb.mono (HuS.three (show HuS w l1 h1 s1 l2 h2 s2 v2 from hHeld)))
          have B7 := B7.keep hb
          go_wp2_with fail
          refine hK.out _ _ hS (fun hHeld => ?_)
          clear hK K hb hHeld
          have hHeld := hS
          clear hS
          try simp only [Act.put, List.setIfInBounds_toArray, List.set_cons_zero, List.set_cons_succ]
          refine wpAnyH_ready (rs := [5]) (by kernel_rfl) (by simp) ?_
          refine AllReadyH.cons (o := { dst := some 8, op := Op.alloc 95, type := 0, pos := "sets.go:56", after := #[], guard := none }) rfl (fun K hK => ?_) ?_
          · go_simp
            have hb := below_new v3 (.cells #[.int .i64 0, .int .i64 0, .int .i64 0, .bool false] 95)
            have B8 := Blk.new (.int .i64 0) (.int .i64 0) (.int .i64 0) (.bool false) 95 v3
            have K78 : v0.heap.size ≠ v3.heap.size := by have := B7.size; omega
            have K8s : w.heap.size + 3 ≤ v3.heap.size := HuS.three (show HuS w l1 h1 s1 l2 h2 s2 v3 from hHeld)
            have hS : HuS w l1 h1 s1 l2 h2 s2 (v3.alloc (.cells #[.int .i64 0, .int .i64 0, .int .i64 0, .bool false] 95)) := HuS.keep (show HuS w l1 h1 s1 l2 h2 s2 v3 from hHeld) (hb.mono K8s)
            have B7 := B7.keep hb
            have z : v3.heap.size ≤ (v3.alloc (.cells #[.int .i64 0, .int .i64 0, .int .i64 0, .bool false] 95)).heap.size := hb.size
            refine hK.out _ _ hS (fun hHeld => ?_)
            clear hK K hb hHeld
            generalize v3.alloc (.cells #[.int .i64 0, .int .i64 0, .int .i64 0, .bool false] 95) = v4 at *
            have hHeld := hS
            clear hS
            try simp only [Act.put, List.setIfInBounds_toArray, List.set_cons_zero, List.set_cons_succ]
            refine wpAnyH_ready (rs := [6]) (by kernel_rfl) (by simp) ?_
            refine AllReadyH.cons (o := { dst := none, op := Op.store 95 (Operand.tmp 7) (Operand.tmp 19), type := 0, pos := "sets.go:56", after := #[{ on := 4, ground := Ground.data }, { on := 1, ground := Ground.data }, { on := 3, ground := Ground.chain }, { on := 0, ground := Ground.phase }, { on := 1, ground := Ground.phase }, { on := 2, ground := Ground.textOnly Departure.lateStores }, { on := 3, ground := Ground.textOnly Departure.lateStoresUnsure }, { on := 4, ground := Ground.phase }, { on := 5, ground := Ground.phase }], guard := none }) rfl (fun K hK => ?_) ?_
            · have c0 := B7.c0
              have c1 := B7.c1
              have c2 := B7.c2
              have c3 := B7.c3
              have f0 := B7.f0
              have f1 := B7.f1
              have f2 := B7.f2
              have f3 := B7.f3
              go_simp
              have hS : HuS w l1 h1 s1 l2 h2 s2 (set4 v4 (v0.heap.size) (.int .i64 l1) (.int .i64 h1) (.int .i64 (magA s1)) (.bool (decide (s1 < 0)))) := HuS.keep (show HuS w l1 h1 s1 l2 h2 s2 v4 from hHeld) (set4_below K7s _ _ _ _)
              have B7 := B7.set (.int .i64 l1) (.int .i64 h1) (.int .i64 (magA s1)) (.bool (decide (s1 < 0)))
              have B8 := B8.other K78.symm (.int .i64 l1) (.int .i64 h1) (.int .i64 (magA s1)) (.bool (decide (s1 < 0)))
              refine hK.out _ _ hS (fun hHeld => ?_)
              clear hK K c0 c1 c2 c3 f0 f1 f2 f3 hHeld
              have z : v4.heap.size ≤ (set4 v4 (v0.heap.size) (.int .i64 l1) (.int .i64 h1) (.int .i64 (magA s1)) (.bool (decide (s1 < 0)))).heap.size := (set4_below (B := 0) (Nat.zero_le _) _ _ _ _).size
              change wpAnyH _ _ _ _ _ _ _ _ (set4 v4 (v0.heap.size) (.int .i64 l1) (.int .i64 h1) (.int .i64 (magA s1)) (.bool (decide (s1 < 0))))
              generalize set4 v4 (v0.heap.size) (.int .i64 l1) (.int .i64 h1) (.int .i64 (magA s1)) (.bool (decide (s1 < 0))) = v5 at *
              have hHeld := hS
              clear hS
              try simp only [Act.put, List.setIfInBounds_toArray, List.set_cons_zero, List.set_cons_succ]
              refine wpAnyH_ready (rs := [7]) (by kernel_rfl) (by simp) ?_
              refine AllReadyH.cons (o := { dst := none, op := Op.store 95 (Operand.tmp 8) (Operand.tmp 21), type := 0, pos := "sets.go:56", after := #[{ on := 5, ground := Ground.data }, { on := 3, ground := Ground.data }, { on := 6, ground := Ground.chain }, { on := 0, ground := Ground.phase }, { on := 1, ground := Ground.phase }, { on := 2, ground := Ground.phase }, { on := 3, ground := Ground.phase }, { on := 4, ground := Ground.phase }, { on := 5, ground := Ground.phase }, { on := 6, ground := Ground.phase }], guard := none }) rfl (fun K hK => ?_) ?_
              · have c0 := B8.c0
                have c1 := B8.c1
                have c2 := B8.c2
                have c3 := B8.c3
                have f0 := B8.f0
                have f1 := B8.f1
                have f2 := B8.f2
                have f3 := B8.f3
                go_simp
                have hS : HuS w l1 h1 s1 l2 h2 s2 (set4 v5 (v3.heap.size) (.int .i64 l2) (.int .i64 h2) (.int .i64 (magA s2)) (.bool (decide (s2 < 0)))) := HuS.keep (show HuS w l1 h1 s1 l2 h2 s2 v5 from hHeld) (set4_below K8s _ _ _ _)
                have B8 := B8.set (.int .i64 l2) (.int .i64 h2) (.int .i64 (magA s2)) (.bool (decide (s2 < 0)))
                have B7 := B7.other K78 (.int .i64 l2) (.int .i64 h2) (.int .i64 (magA s2)) (.bool (decide (s2 < 0)))
                refine hK.out _ _ hS (fun hHeld => ?_)
                clear hK K c0 c1 c2 c3 f0 f1 f2 f3 hHeld
                have z : v5.heap.size ≤ (set4 v5 (v3.heap.size) (.int .i64 l2) (.int .i64 h2) (.int .i64 (magA s2)) (.bool (decide (s2 < 0)))).heap.size := (set4_below (B := 0) (Nat.zero_le _) _ _ _ _).size
                change wpAnyH _ _ _ _ _ _ _ _ (set4 v5 (v3.heap.size) (.int .i64 l2) (.int .i64 h2) (.int .i64 (magA s2)) (.bool (decide (s2 < 0))))
                generalize set4 v5 (v3.heap.size) (.int .i64 l2) (.int .i64 h2) (.int .i64 (magA s2)) (.bool (decide (s2 < 0))) = v6 at *
                have hHeld := hS
                clear hS
                try simp only [Act.put, List.setIfInBounds_toArray, List.set_cons_zero, List.set_cons_succ]
                refine wpAnyH_done (by kernel_rfl) ?_ _
                go_wp2_with fail
                go_meet
                exact ⟨v0.heap.size, v3.heap.size, rfl, rfl, K78, K7s, K8s, B7, B8, hHeld⟩
              exact AllReadyH.nil
            exact AllReadyH.nil
          exact AllReadyH.nil
        refine AllReadyH.cons (o := { dst := some 8, op := Op.alloc 95, type := 0, pos := "sets.go:56", after := #[], guard := none }) rfl (fun K hK => ?_) ?_
        · go_simp
          have hb := below_new v2 (.cells #[.int .i64 0, .int .i64 0, .int .i64 0, .bool false] 95)
          have B8 := Blk.new (.int .i64 0) (.int .i64 0) (.int .i64 0) (.bool false) 95 v2
          have K78 : v0.heap.size ≠ v2.heap.size := by have := B7.size; omega
          have K8s : w.heap.size + 3 ≤ v2.heap.size := HuS.three (show HuS w l1 h1 s1 l2 h2 s2 v2 from hHeld)
          have hS : HuS w l1 h1 s1 l2 h2 s2 (v2.alloc (.cells #[.int .i64 0, .int .i64 0, .int .i64 0, .bool false] 95)) := HuS.keep (show HuS w l1 h1 s1 l2 h2 s2 v2 from hHeld) (hb.mono K8s)
          have B7 := B7.keep hb
          have z : v2.heap.size ≤ (v2.alloc (.cells #[.int .i64 0, .int .i64 0, .int .i64 0, .bool false] 95)).heap.size := hb.size
          refine hK.out _ _ hS (fun hHeld => ?_)
          clear hK K hb hHeld
          generalize v2.alloc (.cells #[.int .i64 0, .int .i64 0, .int .i64 0, .bool false] 95) = v3 at *
          have hHeld := hS
          clear hS
          try simp only [Act.put, List.setIfInBounds_toArray, List.set_cons_zero, List.set_cons_succ]
          refine wpAnyH_ready (rs := [3]) (by kernel_rfl) (by simp) ?_
          refine AllReadyH.cons (o := { dst := some 21, op := Op.call { callee := Callee.value (Operand.func 100), args := #[Operand.tmp 20], argTypes := #[23] }, type := 95, pos := "sets.go:56", after := #[{ on := 2, ground := Ground.data }, { on := 1, ground := Ground.chain }], guard := none }) rfl (fun K hK => ?_) ?_
          · go_simp
            refine (open_any _ _ _ _ (by omega) (by omega)).mono ?_
            rintro e v4 ⟨rfl, hb⟩
            have hb : Below v3.heap.size v3 v4 := ⟨hb.os, hb.tape, hb.output, hb.size, hb.block⟩
            have z : v3.heap.size ≤ v4.heap.size := hb.size
            have hS : HuS w l1 h1 s1 l2 h2 s2 v4 := HuS.keep (show HuS w l1 h1 s1 l2 h2 s2 v3 from hHeld) (hb.mono (HuS.three (show HuS w l1 h1 s1 l2 h2 s2 v3 from hHeld)))
            have B7 := B7.keep hb
            have B8 := B8.keep hb
            go_wp2_with fail
            refine hK.out _ _ hS (fun hHeld => ?_)
            clear hK K hb hHeld
            have hHeld := hS
            clear hS
            try simp only [Act.put, List.setIfInBounds_toArray, List.set_cons_zero, List.set_cons_succ]
            refine wpAnyH_ready (rs := [6]) (by kernel_rfl) (by simp) ?_
            refine AllReadyH.cons (o := { dst := none, op := Op.store 95 (Operand.tmp 7) (Operand.tmp 19), type := 0, pos := "sets.go:56", after := #[{ on := 4, ground := Ground.data }, { on := 1, ground := Ground.data }, { on := 3, ground := Ground.chain }, { on := 0, ground := Ground.phase }, { on := 1, ground := Ground.phase }, { on := 2, ground := Ground.textOnly Departure.lateStores }, { on := 3, ground := Ground.textOnly Departure.lateStoresUnsure }, { on := 4, ground := Ground.phase }, { on := 5, ground := Ground.phase }], guard := none }) rfl (fun K hK => ?_) ?_
            · have c0 := B7.c0
              have c1 := B7.c1
              have c2 := B7.c2
              have c3 := B7.c3
              have f0 := B7.f0
              have f1 := B7.f1
              have f2 := B7.f2
              have f3 := B7.f3
              go_simp
              have hS : HuS w l1 h1 s1 l2 h2 s2 (set4 v4 (v0.heap.size) (.int .i64 l1) (.int .i64 h1) (.int .i64 (magA s1)) (.bool (decide (s1 < 0)))) := HuS.keep (show HuS w l1 h1 s1 l2 h2 s2 v4 from hHeld) (set4_below K7s _ _ _ _)
              have B7 := B7.set (.int .i64 l1) (.int .i64 h1) (.int .i64 (magA s1)) (.bool (decide (s1 < 0)))
              have B8 := B8.other K78.symm (.int .i64 l1) (.int .i64 h1) (.int .i64 (magA s1)) (.bool (decide (s1 < 0)))
              refine hK.out _ _ hS (fun hHeld => ?_)
              clear hK K c0 c1 c2 c3 f0 f1 f2 f3 hHeld
              have z : v4.heap.size ≤ (set4 v4 (v0.heap.size) (.int .i64 l1) (.int .i64 h1) (.int .i64 (magA s1)) (.bool (decide (s1 < 0)))).heap.size := (set4_below (B := 0) (Nat.zero_le _) _ _ _ _).size
              change wpAnyH _ _ _ _ _ _ _ _ (set4 v4 (v0.heap.size) (.int .i64 l1) (.int .i64 h1) (.int .i64 (magA s1)) (.bool (decide (s1 < 0))))
              generalize set4 v4 (v0.heap.size) (.int .i64 l1) (.int .i64 h1) (.int .i64 (magA s1)) (.bool (decide (s1 < 0))) = v5 at *
              have hHeld := hS
              clear hS
              try simp only [Act.put, List.setIfInBounds_toArray, List.set_cons_zero, List.set_cons_succ]
              refine wpAnyH_ready (rs := [7]) (by kernel_rfl) (by simp) ?_
              refine AllReadyH.cons (o := { dst := none, op := Op.store 95 (Operand.tmp 8) (Operand.tmp 21), type := 0, pos := "sets.go:56", after := #[{ on := 5, ground := Ground.data }, { on := 3, ground := Ground.data }, { on := 6, ground := Ground.chain }, { on := 0, ground := Ground.phase }, { on := 1, ground := Ground.phase }, { on := 2, ground := Ground.phase }, { on := 3, ground := Ground.phase }, { on := 4, ground := Ground.phase }, { on := 5, ground := Ground.phase }, { on := 6, ground := Ground.phase }], guard := none }) rfl (fun K hK => ?_) ?_
              · have c0 := B8.c0
                have c1 := B8.c1
                have c2 := B8.c2
                have c3 := B8.c3
                have f0 := B8.f0
                have f1 := B8.f1
                have f2 := B8.f2
                have f3 := B8.f3
                go_simp
                have hS : HuS w l1 h1 s1 l2 h2 s2 (set4 v5 (v2.heap.size) (.int .i64 l2) (.int .i64 h2) (.int .i64 (magA s2)) (.bool (decide (s2 < 0)))) := HuS.keep (show HuS w l1 h1 s1 l2 h2 s2 v5 from hHeld) (set4_below K8s _ _ _ _)
                have B8 := B8.set (.int .i64 l2) (.int .i64 h2) (.int .i64 (magA s2)) (.bool (decide (s2 < 0)))
                have B7 := B7.other K78 (.int .i64 l2) (.int .i64 h2) (.int .i64 (magA s2)) (.bool (decide (s2 < 0)))
                refine hK.out _ _ hS (fun hHeld => ?_)
                clear hK K c0 c1 c2 c3 f0 f1 f2 f3 hHeld
                have z : v5.heap.size ≤ (set4 v5 (v2.heap.size) (.int .i64 l2) (.int .i64 h2) (.int .i64 (magA s2)) (.bool (decide (s2 < 0)))).heap.size := (set4_below (B := 0) (Nat.zero_le _) _ _ _ _).size
                change wpAnyH _ _ _ _ _ _ _ _ (set4 v5 (v2.heap.size) (.int .i64 l2) (.int .i64 h2) (.int .i64 (magA s2)) (.bool (decide (s2 < 0))))
                generalize set4 v5 (v2.heap.size) (.int .i64 l2) (.int .i64 h2) (.int .i64 (magA s2)) (.bool (decide (s2 < 0))) = v6 at *
                have hHeld := hS
                clear hS
                try simp only [Act.put, List.setIfInBounds_toArray, List.set_cons_zero, List.set_cons_succ]
                refine wpAnyH_done (by kernel_rfl) ?_ _
                go_wp2_with fail
                go_meet
                exact ⟨v0.heap.size, v2.heap.size, rfl, rfl, K78, K7s, K8s, B7, B8, hHeld⟩
              exact AllReadyH.nil
            exact AllReadyH.nil
          exact AllReadyH.nil
        exact AllReadyH.nil
      refine AllReadyH.cons (o := { dst := some 8, op := Op.alloc 95, type := 0, pos := "sets.go:56", after := #[], guard := none }) rfl (fun K hK => ?_) ?_
      · go_simp
        have hb := below_new v1 (.cells #[.int .i64 0, .int .i64 0, .int .i64 0, .bool false] 95)
        have B8 := Blk.new (.int .i64 0) (.int .i64 0) (.int .i64 0) (.bool false) 95 v1
        have K78 : v0.heap.size ≠ v1.heap.size := by have := B7.size; omega
        have K8s : w.heap.size + 3 ≤ v1.heap.size := HuS.three (show HuS w l1 h1 s1 l2 h2 s2 v1 from hHeld)
        have hS : HuS w l1 h1 s1 l2 h2 s2 (v1.alloc (.cells #[.int .i64 0, .int .i64 0, .int .i64 0, .bool false] 95)) := HuS.keep (show HuS w l1 h1 s1 l2 h2 s2 v1 from hHeld) (hb.mono K8s)
        have B7 := B7.keep hb
        have z : v1.heap.size ≤ (v1.alloc (.cells #[.int .i64 0, .int .i64 0, .int .i64 0, .bool false] 95)).heap.size := hb.size
        refine hK.out _ _ hS (fun hHeld => ?_)
        clear hK K hb hHeld
        generalize v1.alloc (.cells #[.int .i64 0, .int .i64 0, .int .i64 0, .bool false] 95) = v2 at *
        have hHeld := hS
        clear hS
        try simp only [Act.put, List.setIfInBounds_toArray, List.set_cons_zero, List.set_cons_succ]
        refine wpAnyH_ready (rs := [1]) (by kernel_rfl) (by simp) ?_
        refine AllReadyH.cons (o := { dst := some 19, op := Op.call { callee := Callee.value (Operand.func 100), args := #[Operand.tmp 18], argTypes := #[23] }, type := 95, pos := "sets.go:56", after := #[{ on := 0, ground := Ground.data }], guard := none }) rfl (fun K hK => ?_) ?_
        · go_simp
          refine (open_any _ _ _ _ (by omega) (by omega)).mono ?_
          rintro e v3 ⟨rfl, hb⟩
          have hb : Below v2.heap.size v2 v3 := ⟨hb.os, hb.tape, hb.output, hb.size, hb.block⟩
          have z : v2.heap.size ≤ v3.heap.size := hb.size
          have hS : HuS w l1 h1 s1 l2 h2 s2 v3 := HuS.keep (show HuS w l1 h1 s1 l2 h2 s2 v2 from hHeld) (hb.mono (HuS.three (show HuS w l1 h1 s1 l2 h2 s2 v2 from hHeld)))
          have B7 := B7.keep hb
          have B8 := B8.keep hb
          go_wp2_with fail
          refine hK.out _ _ hS (fun hHeld => ?_)
          clear hK K hb hHeld
          have hHeld := hS
          clear hS
          try simp only [Act.put, List.setIfInBounds_toArray, List.set_cons_zero, List.set_cons_succ]
          refine wpAnyH_ready (rs := [3]) (by kernel_rfl) (by simp) ?_
          refine AllReadyH.cons (o := { dst := some 21, op := Op.call { callee := Callee.value (Operand.func 100), args := #[Operand.tmp 20], argTypes := #[23] }, type := 95, pos := "sets.go:56", after := #[{ on := 2, ground := Ground.data }, { on := 1, ground := Ground.chain }], guard := none }) rfl (fun K hK => ?_) ?_
          · go_simp
            refine (open_any _ _ _ _ (by omega) (by omega)).mono ?_
            rintro e v4 ⟨rfl, hb⟩
            have hb : Below v3.heap.size v3 v4 := ⟨hb.os, hb.tape, hb.output, hb.size, hb.block⟩
            have z : v3.heap.size ≤ v4.heap.size := hb.size
            have hS : HuS w l1 h1 s1 l2 h2 s2 v4 := HuS.keep (show HuS w l1 h1 s1 l2 h2 s2 v3 from hHeld) (hb.mono (HuS.three (show HuS w l1 h1 s1 l2 h2 s2 v3 from hHeld)))
            have B7 := B7.keep hb
            have B8 := B8.keep hb
            go_wp2_with fail
            refine hK.out _ _ hS (fun hHeld => ?_)
            clear hK K hb hHeld
            have hHeld := hS
            clear hS
            try simp only [Act.put, List.setIfInBounds_toArray, List.set_cons_zero, List.set_cons_succ]
            refine wpAnyH_ready (rs := [6]) (by kernel_rfl) (by simp) ?_
            refine AllReadyH.cons (o := { dst := none, op := Op.store 95 (Operand.tmp 7) (Operand.tmp 19), type := 0, pos := "sets.go:56", after := #[{ on := 4, ground := Ground.data }, { on := 1, ground := Ground.data }, { on := 3, ground := Ground.chain }, { on := 0, ground := Ground.phase }, { on := 1, ground := Ground.phase }, { on := 2, ground := Ground.textOnly Departure.lateStores }, { on := 3, ground := Ground.textOnly Departure.lateStoresUnsure }, { on := 4, ground := Ground.phase }, { on := 5, ground := Ground.phase }], guard := none }) rfl (fun K hK => ?_) ?_
            · have c0 := B7.c0
              have c1 := B7.c1
              have c2 := B7.c2
              have c3 := B7.c3
              have f0 := B7.f0
              have f1 := B7.f1
              have f2 := B7.f2
              have f3 := B7.f3
              go_simp
              have hS : HuS w l1 h1 s1 l2 h2 s2 (set4 v4 (v0.heap.size) (.int .i64 l1) (.int .i64 h1) (.int .i64 (magA s1)) (.bool (decide (s1 < 0)))) := HuS.keep (show HuS w l1 h1 s1 l2 h2 s2 v4 from hHeld) (set4_below K7s _ _ _ _)
              have B7 := B7.set (.int .i64 l1) (.int .i64 h1) (.int .i64 (magA s1)) (.bool (decide (s1 < 0)))
              have B8 := B8.other K78.symm (.int .i64 l1) (.int .i64 h1) (.int .i64 (magA s1)) (.bool (decide (s1 < 0)))
              refine hK.out _ _ hS (fun hHeld => ?_)
              clear hK K c0 c1 c2 c3 f0 f1 f2 f3 hHeld
              have z : v4.heap.size ≤ (set4 v4 (v0.heap.size) (.int .i64 l1) (.int .i64 h1) (.int .i64 (magA s1)) (.bool (decide (s1 < 0)))).heap.size := (set4_below (B := 0) (Nat.zero_le _) _ _ _ _).size
              change wpAnyH _ _ _ _ _ _ _ _ (set4 v4 (v0.heap.size) (.int .i64 l1) (.int .i64 h1) (.int .i64 (magA s1)) (.bool (decide (s1 < 0))))
              generalize set4 v4 (v0.heap.size) (.int .i64 l1) (.int .i64 h1) (.int .i64 (magA s1)) (.bool (decide (s1 < 0))) = v5 at *
              have hHeld := hS
              clear hS
              try simp only [Act.put, List.setIfInBounds_toArray, List.set_cons_zero, List.set_cons_succ]
              refine wpAnyH_ready (rs := [7]) (by kernel_rfl) (by simp) ?_
              refine AllReadyH.cons (o := { dst := none, op := Op.store 95 (Operand.tmp 8) (Operand.tmp 21), type := 0, pos := "sets.go:56", after := #[{ on := 5, ground := Ground.data }, { on := 3, ground := Ground.data }, { on := 6, ground := Ground.chain }, { on := 0, ground := Ground.phase }, { on := 1, ground := Ground.phase }, { on := 2, ground := Ground.phase }, { on := 3, ground := Ground.phase }, { on := 4, ground := Ground.phase }, { on := 5, ground := Ground.phase }, { on := 6, ground := Ground.phase }], guard := none }) rfl (fun K hK => ?_) ?_
              · have c0 := B8.c0
                have c1 := B8.c1
                have c2 := B8.c2
                have c3 := B8.c3
                have f0 := B8.f0
                have f1 := B8.f1
                have f2 := B8.f2
                have f3 := B8.f3
                go_simp
                have hS : HuS w l1 h1 s1 l2 h2 s2 (set4 v5 (v1.heap.size) (.int .i64 l2) (.int .i64 h2) (.int .i64 (magA s2)) (.bool (decide (s2 < 0)))) := HuS.keep (show HuS w l1 h1 s1 l2 h2 s2 v5 from hHeld) (set4_below K8s _ _ _ _)
                have B8 := B8.set (.int .i64 l2) (.int .i64 h2) (.int .i64 (magA s2)) (.bool (decide (s2 < 0)))
                have B7 := B7.other K78 (.int .i64 l2) (.int .i64 h2) (.int .i64 (magA s2)) (.bool (decide (s2 < 0)))
                refine hK.out _ _ hS (fun hHeld => ?_)
                clear hK K c0 c1 c2 c3 f0 f1 f2 f3 hHeld
                have z : v5.heap.size ≤ (set4 v5 (v1.heap.size) (.int .i64 l2) (.int .i64 h2) (.int .i64 (magA s2)) (.bool (decide (s2 < 0)))).heap.size := (set4_below (B := 0) (Nat.zero_le _) _ _ _ _).size
                change wpAnyH _ _ _ _ _ _ _ _ (set4 v5 (v1.heap.size) (.int .i64 l2) (.int .i64 h2) (.int .i64 (magA s2)) (.bool (decide (s2 < 0))))
                generalize set4 v5 (v1.heap.size) (.int .i64 l2) (.int .i64 h2) (.int .i64 (magA s2)) (.bool (decide (s2 < 0))) = v6 at *
                have hHeld := hS
                clear hS
                try simp only [Act.put, List.setIfInBounds_toArray, List.set_cons_zero, List.set_cons_succ]
                refine wpAnyH_done (by kernel_rfl) ?_ _
                go_wp2_with fail
                go_meet
                exact ⟨v0.heap.size, v1.heap.size, rfl, rfl, K78, K7s, K8s, B7, B8, hHeld⟩
              exact AllReadyH.nil
            exact AllReadyH.nil
          exact AllReadyH.nil
        exact AllReadyH.nil
      exact AllReadyH.nil
    refine AllReadyH.cons (o := { dst := some 8, op := Op.alloc 95, type := 0, pos := "sets.go:56", after := #[], guard := none }) rfl (fun K hK => ?_) ?_
    · go_simp
      have hb := below_new v0 (.cells #[.int .i64 0, .int .i64 0, .int .i64 0, .bool false] 95)
      have B8 := Blk.new (.int .i64 0) (.int .i64 0) (.int .i64 0) (.bool false) 95 v0
      have K8s : w.heap.size + 3 ≤ v0.heap.size := HuS.three (show HuS w l1 h1 s1 l2 h2 s2 v0 from hHeld)
      have hS : HuS w l1 h1 s1 l2 h2 s2 (v0.alloc (.cells #[.int .i64 0, .int .i64 0, .int .i64 0, .bool false] 95)) := HuS.keep (show HuS w l1 h1 s1 l2 h2 s2 v0 from hHeld) (hb.mono K8s)
      have z : v0.heap.size ≤ (v0.alloc (.cells #[.int .i64 0, .int .i64 0, .int .i64 0, .bool false] 95)).heap.size := hb.size
      refine hK.out _ _ hS (fun hHeld => ?_)
      clear hK K hb hHeld
      generalize v0.alloc (.cells #[.int .i64 0, .int .i64 0, .int .i64 0, .bool false] 95) = v1 at *
      have hHeld := hS
      clear hS
      try simp only [Act.put, List.setIfInBounds_toArray, List.set_cons_zero, List.set_cons_succ]
      refine wpAnyH_ready (rs := [1, 4]) (by kernel_rfl) (by simp) ?_
      refine AllReadyH.cons (o := { dst := some 19, op := Op.call { callee := Callee.value (Operand.func 100), args := #[Operand.tmp 18], argTypes := #[23] }, type := 95, pos := "sets.go:56", after := #[{ on := 0, ground := Ground.data }], guard := none }) rfl (fun K hK => ?_) ?_
      · go_simp
        refine (open_any _ _ _ _ (by omega) (by omega)).mono ?_
        rintro e v2 ⟨rfl, hb⟩
        have hb : Below v1.heap.size v1 v2 := ⟨hb.os, hb.tape, hb.output, hb.size, hb.block⟩
        have z : v1.heap.size ≤ v2.heap.size := hb.size
        have hS : HuS w l1 h1 s1 l2 h2 s2 v2 := HuS.keep (show HuS w l1 h1 s1 l2 h2 s2 v1 from hHeld) (hb.mono (HuS.three (show HuS w l1 h1 s1 l2 h2 s2 v1 from hHeld)))
        have B8 := B8.keep hb
        go_wp2_with fail
        refine hK.out _ _ hS (fun hHeld => ?_)
        clear hK K hb hHeld
        have hHeld := hS
        clear hS
        try simp only [Act.put, List.setIfInBounds_toArray, List.set_cons_zero, List.set_cons_succ]
        refine wpAnyH_ready (rs := [3, 4]) (by kernel_rfl) (by simp) ?_
        refine AllReadyH.cons (o := { dst := some 21, op := Op.call { callee := Callee.value (Operand.func 100), args := #[Operand.tmp 20], argTypes := #[23] }, type := 95, pos := "sets.go:56", after := #[{ on := 2, ground := Ground.data }, { on := 1, ground := Ground.chain }], guard := none }) rfl (fun K hK => ?_) ?_
        · go_simp
          refine (open_any _ _ _ _ (by omega) (by omega)).mono ?_
          rintro e v3 ⟨rfl, hb⟩
          have hb : Below v2.heap.size v2 v3 := ⟨hb.os, hb.tape, hb.output, hb.size, hb.block⟩
          have z : v2.heap.size ≤ v3.heap.size := hb.size
          have hS : HuS w l1 h1 s1 l2 h2 s2 v3 := HuS.keep (show HuS w l1 h1 s1 l2 h2 s2 v2 from hHeld) (hb.mono (HuS.three (show HuS w l1 h1 s1 l2 h2 s2 v2 from hHeld)))
          have B8 := B8.keep hb
          go_wp2_with fail
          refine hK.out _ _ hS (fun hHeld => ?_)
          clear hK K hb hHeld
          have hHeld := hS
          clear hS
          try simp only [Act.put, List.setIfInBounds_toArray, List.set_cons_zero, List.set_cons_succ]
          refine wpAnyH_ready (rs := [4]) (by kernel_rfl) (by simp) ?_
          refine AllReadyH.cons (o := { dst := some 7, op := Op.alloc 95, type := 0, pos := "sets.go:56", after := #[], guard := none }) rfl (fun K hK => ?_) ?_
          · go_simp
            have hb := below_new v3 (.cells #[.int .i64 0, .int .i64 0, .int .i64 0, .bool false] 95)
            have B7 := Blk.new (.int .i64 0) (.int .i64 0) (.int .i64 0) (.bool false) 95 v3
            have K78 : v3.heap.size ≠ v0.heap.size := by have := B8.size; omega
            have K7s : w.heap.size + 3 ≤ v3.heap.size := HuS.three (show HuS w l1 h1 s1 l2 h2 s2 v3 from hHeld)
            have hS : HuS w l1 h1 s1 l2 h2 s2 (v3.alloc (.cells #[.int .i64 0, .int .i64 0, .int .i64 0, .bool false] 95)) := HuS.keep (show HuS w l1 h1 s1 l2 h2 s2 v3 from hHeld) (hb.mono K7s)
            have B8 := B8.keep hb
            have z : v3.heap.size ≤ (v3.alloc (.cells #[.int .i64 0, .int .i64 0, .int .i64 0, .bool false] 95)).heap.size := hb.size
            refine hK.out _ _ hS (fun hHeld => ?_)
            clear hK K hb hHeld
            generalize v3.alloc (.cells #[.int .i64 0, .int .i64 0, .int .i64 0, .bool false] 95) = v4 at *
            have hHeld := hS
            clear hS
            try simp only [Act.put, List.setIfInBounds_toArray, List.set_cons_zero, List.set_cons_succ]
            refine wpAnyH_ready (rs := [6]) (by kernel_rfl) (by simp) ?_
            refine AllReadyH.cons (o := { dst := none, op := Op.store 95 (Operand.tmp 7) (Operand.tmp 19), type := 0, pos := "sets.go:56", after := #[{ on := 4, ground := Ground.data }, { on := 1, ground := Ground.data }, { on := 3, ground := Ground.chain }, { on := 0, ground := Ground.phase }, { on := 1, ground := Ground.phase }, { on := 2, ground := Ground.textOnly Departure.lateStores }, { on := 3, ground := Ground.textOnly Departure.lateStoresUnsure }, { on := 4, ground := Ground.phase }, { on := 5, ground := Ground.phase }], guard := none }) rfl (fun K hK => ?_) ?_
            · have c0 := B7.c0
              have c1 := B7.c1
              have c2 := B7.c2
              have c3 := B7.c3
              have f0 := B7.f0
              have f1 := B7.f1
              have f2 := B7.f2
              have f3 := B7.f3
              go_simp
              have hS : HuS w l1 h1 s1 l2 h2 s2 (set4 v4 (v3.heap.size) (.int .i64 l1) (.int .i64 h1) (.int .i64 (magA s1)) (.bool (decide (s1 < 0)))) := HuS.keep (show HuS w l1 h1 s1 l2 h2 s2 v4 from hHeld) (set4_below K7s _ _ _ _)
              have B7 := B7.set (.int .i64 l1) (.int .i64 h1) (.int .i64 (magA s1)) (.bool (decide (s1 < 0)))
              have B8 := B8.other K78.symm (.int .i64 l1) (.int .i64 h1) (.int .i64 (magA s1)) (.bool (decide (s1 < 0)))
              refine hK.out _ _ hS (fun hHeld => ?_)
              clear hK K c0 c1 c2 c3 f0 f1 f2 f3 hHeld
              have z : v4.heap.size ≤ (set4 v4 (v3.heap.size) (.int .i64 l1) (.int .i64 h1) (.int .i64 (magA s1)) (.bool (decide (s1 < 0)))).heap.size := (set4_below (B := 0) (Nat.zero_le _) _ _ _ _).size
              change wpAnyH _ _ _ _ _ _ _ _ (set4 v4 (v3.heap.size) (.int .i64 l1) (.int .i64 h1) (.int .i64 (magA s1)) (.bool (decide (s1 < 0))))
              generalize set4 v4 (v3.heap.size) (.int .i64 l1) (.int .i64 h1) (.int .i64 (magA s1)) (.bool (decide (s1 < 0))) = v5 at *
              have hHeld := hS
              clear hS
              try simp only [Act.put, List.setIfInBounds_toArray, List.set_cons_zero, List.set_cons_succ]
              refine wpAnyH_ready (rs := [7]) (by kernel_rfl) (by simp) ?_
              refine AllReadyH.cons (o := { dst := none, op := Op.store 95 (Operand.tmp 8) (Operand.tmp 21), type := 0, pos := "sets.go:56", after := #[{ on := 5, ground := Ground.data }, { on := 3, ground := Ground.data }, { on := 6, ground := Ground.chain }, { on := 0, ground := Ground.phase }, { on := 1, ground := Ground.phase }, { on := 2, ground := Ground.phase }, { on := 3, ground := Ground.phase }, { on := 4, ground := Ground.phase }, { on := 5, ground := Ground.phase }, { on := 6, ground := Ground.phase }], guard := none }) rfl (fun K hK => ?_) ?_
              · have c0 := B8.c0
                have c1 := B8.c1
                have c2 := B8.c2
                have c3 := B8.c3
                have f0 := B8.f0
                have f1 := B8.f1
                have f2 := B8.f2
                have f3 := B8.f3
                go_simp
                have hS : HuS w l1 h1 s1 l2 h2 s2 (set4 v5 (v0.heap.size) (.int .i64 l2) (.int .i64 h2) (.int .i64 (magA s2)) (.bool (decide (s2 < 0)))) := HuS.keep (show HuS w l1 h1 s1 l2 h2 s2 v5 from hHeld) (set4_below K8s _ _ _ _)
                have B8 := B8.set (.int .i64 l2) (.int .i64 h2) (.int .i64 (magA s2)) (.bool (decide (s2 < 0)))
                have B7 := B7.other K78 (.int .i64 l2) (.int .i64 h2) (.int .i64 (magA s2)) (.bool (decide (s2 < 0)))
                refine hK.out _ _ hS (fun hHeld => ?_)
                clear hK K c0 c1 c2 c3 f0 f1 f2 f3 hHeld
                have z : v5.heap.size ≤ (set4 v5 (v0.heap.size) (.int .i64 l2) (.int .i64 h2) (.int .i64 (magA s2)) (.bool (decide (s2 < 0)))).heap.size := (set4_below (B := 0) (Nat.zero_le _) _ _ _ _).size
                change wpAnyH _ _ _ _ _ _ _ _ (set4 v5 (v0.heap.size) (.int .i64 l2) (.int .i64 h2) (.int .i64 (magA s2)) (.bool (decide (s2 < 0))))
                generalize set4 v5 (v0.heap.size) (.int .i64 l2) (.int .i64 h2) (.int .i64 (magA s2)) (.bool (decide (s2 < 0))) = v6 at *
                have hHeld := hS
                clear hS
                try simp only [Act.put, List.setIfInBounds_toArray, List.set_cons_zero, List.set_cons_succ]
                refine wpAnyH_done (by kernel_rfl) ?_ _
                go_wp2_with fail
                go_meet
                exact ⟨v3.heap.size, v0.heap.size, rfl, rfl, K78, K7s, K8s, B7, B8, hHeld⟩
              exact AllReadyH.nil
            exact AllReadyH.nil
          exact AllReadyH.nil
        refine AllReadyH.cons (o := { dst := some 7, op := Op.alloc 95, type := 0, pos := "sets.go:56", after := #[], guard := none }) rfl (fun K hK => ?_) ?_
        · go_simp
          have hb := below_new v2 (.cells #[.int .i64 0, .int .i64 0, .int .i64 0, .bool false] 95)
          have B7 := Blk.new (.int .i64 0) (.int .i64 0) (.int .i64 0) (.bool false) 95 v2
          have K78 : v2.heap.size ≠ v0.heap.size := by have := B8.size; omega
          have K7s : w.heap.size + 3 ≤ v2.heap.size := HuS.three (show HuS w l1 h1 s1 l2 h2 s2 v2 from hHeld)
          have hS : HuS w l1 h1 s1 l2 h2 s2 (v2.alloc (.cells #[.int .i64 0, .int .i64 0, .int .i64 0, .bool false] 95)) := HuS.keep (show HuS w l1 h1 s1 l2 h2 s2 v2 from hHeld) (hb.mono K7s)
          have B8 := B8.keep hb
          have z : v2.heap.size ≤ (v2.alloc (.cells #[.int .i64 0, .int .i64 0, .int .i64 0, .bool false] 95)).heap.size := hb.size
          refine hK.out _ _ hS (fun hHeld => ?_)
          clear hK K hb hHeld
          generalize v2.alloc (.cells #[.int .i64 0, .int .i64 0, .int .i64 0, .bool false] 95) = v3 at *
          have hHeld := hS
          clear hS
          try simp only [Act.put, List.setIfInBounds_toArray, List.set_cons_zero, List.set_cons_succ]
          refine wpAnyH_ready (rs := [3]) (by kernel_rfl) (by simp) ?_
          refine AllReadyH.cons (o := { dst := some 21, op := Op.call { callee := Callee.value (Operand.func 100), args := #[Operand.tmp 20], argTypes := #[23] }, type := 95, pos := "sets.go:56", after := #[{ on := 2, ground := Ground.data }, { on := 1, ground := Ground.chain }], guard := none }) rfl (fun K hK => ?_) ?_
          · go_simp
            refine (open_any _ _ _ _ (by omega) (by omega)).mono ?_
            rintro e v4 ⟨rfl, hb⟩
            have hb : Below v3.heap.size v3 v4 := ⟨hb.os, hb.tape, hb.output, hb.size, hb.block⟩
            have z : v3.heap.size ≤ v4.heap.size := hb.size
            have hS : HuS w l1 h1 s1 l2 h2 s2 v4 := HuS.keep (show HuS w l1 h1 s1 l2 h2 s2 v3 from hHeld) (hb.mono (HuS.three (show HuS w l1 h1 s1 l2 h2 s2 v3 from hHeld)))
            have B7 := B7.keep hb
            have B8 := B8.keep hb
            go_wp2_with fail
            refine hK.out _ _ hS (fun hHeld => ?_)
            clear hK K hb hHeld
            have hHeld := hS
            clear hS
            try simp only [Act.put, List.setIfInBounds_toArray, List.set_cons_zero, List.set_cons_succ]
            refine wpAnyH_ready (rs := [6]) (by kernel_rfl) (by simp) ?_
            refine AllReadyH.cons (o := { dst := none, op := Op.store 95 (Operand.tmp 7) (Operand.tmp 19), type := 0, pos := "sets.go:56", after := #[{ on := 4, ground := Ground.data }, { on := 1, ground := Ground.data }, { on := 3, ground := Ground.chain }, { on := 0, ground := Ground.phase }, { on := 1, ground := Ground.phase }, { on := 2, ground := Ground.textOnly Departure.lateStores }, { on := 3, ground := Ground.textOnly Departure.lateStoresUnsure }, { on := 4, ground := Ground.phase }, { on := 5, ground := Ground.phase }], guard := none }) rfl (fun K hK => ?_) ?_
            · have c0 := B7.c0
              have c1 := B7.c1
              have c2 := B7.c2
              have c3 := B7.c3
              have f0 := B7.f0
              have f1 := B7.f1
              have f2 := B7.f2
              have f3 := B7.f3
              go_simp
              have hS : HuS w l1 h1 s1 l2 h2 s2 (set4 v4 (v2.heap.size) (.int .i64 l1) (.int .i64 h1) (.int .i64 (magA s1)) (.bool (decide (s1 < 0)))) := HuS.keep (show HuS w l1 h1 s1 l2 h2 s2 v4 from hHeld) (set4_below K7s _ _ _ _)
              have B7 := B7.set (.int .i64 l1) (.int .i64 h1) (.int .i64 (magA s1)) (.bool (decide (s1 < 0)))
              have B8 := B8.other K78.symm (.int .i64 l1) (.int .i64 h1) (.int .i64 (magA s1)) (.bool (decide (s1 < 0)))
              refine hK.out _ _ hS (fun hHeld => ?_)
              clear hK K c0 c1 c2 c3 f0 f1 f2 f3 hHeld
              have z : v4.heap.size ≤ (set4 v4 (v2.heap.size) (.int .i64 l1) (.int .i64 h1) (.int .i64 (magA s1)) (.bool (decide (s1 < 0)))).heap.size := (set4_below (B := 0) (Nat.zero_le _) _ _ _ _).size
              change wpAnyH _ _ _ _ _ _ _ _ (set4 v4 (v2.heap.size) (.int .i64 l1) (.int .i64 h1) (.int .i64 (magA s1)) (.bool (decide (s1 < 0))))
              generalize set4 v4 (v2.heap.size) (.int .i64 l1) (.int .i64 h1) (.int .i64 (magA s1)) (.bool (decide (s1 < 0))) = v5 at *
              have hHeld := hS
              clear hS
              try simp only [Act.put, List.setIfInBounds_toArray, List.set_cons_zero, List.set_cons_succ]
              refine wpAnyH_ready (rs := [7]) (by kernel_rfl) (by simp) ?_
              refine AllReadyH.cons (o := { dst := none, op := Op.store 95 (Operand.tmp 8) (Operand.tmp 21), type := 0, pos := "sets.go:56", after := #[{ on := 5, ground := Ground.data }, { on := 3, ground := Ground.data }, { on := 6, ground := Ground.chain }, { on := 0, ground := Ground.phase }, { on := 1, ground := Ground.phase }, { on := 2, ground := Ground.phase }, { on := 3, ground := Ground.phase }, { on := 4, ground := Ground.phase }, { on := 5, ground := Ground.phase }, { on := 6, ground := Ground.phase }], guard := none }) rfl (fun K hK => ?_) ?_
              · have c0 := B8.c0
                have c1 := B8.c1
                have c2 := B8.c2
                have c3 := B8.c3
                have f0 := B8.f0
                have f1 := B8.f1
                have f2 := B8.f2
                have f3 := B8.f3
                go_simp
                have hS : HuS w l1 h1 s1 l2 h2 s2 (set4 v5 (v0.heap.size) (.int .i64 l2) (.int .i64 h2) (.int .i64 (magA s2)) (.bool (decide (s2 < 0)))) := HuS.keep (show HuS w l1 h1 s1 l2 h2 s2 v5 from hHeld) (set4_below K8s _ _ _ _)
                have B8 := B8.set (.int .i64 l2) (.int .i64 h2) (.int .i64 (magA s2)) (.bool (decide (s2 < 0)))
                have B7 := B7.other K78 (.int .i64 l2) (.int .i64 h2) (.int .i64 (magA s2)) (.bool (decide (s2 < 0)))
                refine hK.out _ _ hS (fun hHeld => ?_)
                clear hK K c0 c1 c2 c3 f0 f1 f2 f3 hHeld
                have z : v5.heap.size ≤ (set4 v5 (v0.heap.size) (.int .i64 l2) (.int .i64 h2) (.int .i64 (magA s2)) (.bool (decide (s2 < 0)))).heap.size := (set4_below (B := 0) (Nat.zero_le _) _ _ _ _).size
                change wpAnyH _ _ _ _ _ _ _ _ (set4 v5 (v0.heap.size) (.int .i64 l2) (.int .i64 h2) (.int .i64 (magA s2)) (.bool (decide (s2 < 0))))
                generalize set4 v5 (v0.heap.size) (.int .i64 l2) (.int .i64 h2) (.int .i64 (magA s2)) (.bool (decide (s2 < 0))) = v6 at *
                have hHeld := hS
                clear hS
                try simp only [Act.put, List.setIfInBounds_toArray, List.set_cons_zero, List.set_cons_succ]
                refine wpAnyH_done (by kernel_rfl) ?_ _
                go_wp2_with fail
                go_meet
                exact ⟨v2.heap.size, v0.heap.size, rfl, rfl, K78, K7s, K8s, B7, B8, hHeld⟩
              exact AllReadyH.nil
            exact AllReadyH.nil
          exact AllReadyH.nil
        exact AllReadyH.nil
      refine AllReadyH.cons (o := { dst := some 7, op := Op.alloc 95, type := 0, pos := "sets.go:56", after := #[], guard := none }) rfl (fun K hK => ?_) ?_
      · go_simp
        have hb := below_new v1 (.cells #[.int .i64 0, .int .i64 0, .int .i64 0, .bool false] 95)
        have B7 := Blk.new (.int .i64 0) (.int .i64 0) (.int .i64 0) (.bool false) 95 v1
        have K78 : v1.heap.size ≠ v0.heap.size := by have := B8.size; omega
        have K7s : w.heap.size + 3 ≤ v1.heap.size := HuS.three (show HuS w l1 h1 s1 l2 h2 s2 v1 from hHeld)
        have hS : HuS w l1 h1 s1 l2 h2 s2 (v1.alloc (.cells #[.int .i64 0, .int .i64 0, .int .i64 0, .bool false] 95)) := HuS.keep (show HuS w l1 h1 s1 l2 h2 s2 v1 from hHeld) (hb.mono K7s)
        have B8 := B8.keep hb
        have z : v1.heap.size ≤ (v1.alloc (.cells #[.int .i64 0, .int .i64 0, .int .i64 0, .bool false] 95)).heap.size := hb.size
        refine hK.out _ _ hS (fun hHeld => ?_)
        clear hK K hb hHeld
        generalize v1.alloc (.cells #[.int .i64 0, .int .i64 0, .int .i64 0, .bool false] 95) = v2 at *
        have hHeld := hS
        clear hS
        try simp only [Act.put, List.setIfInBounds_toArray, List.set_cons_zero, List.set_cons_succ]
        refine wpAnyH_ready (rs := [1]) (by kernel_rfl) (by simp) ?_
        refine AllReadyH.cons (o := { dst := some 19, op := Op.call { callee := Callee.value (Operand.func 100), args := #[Operand.tmp 18], argTypes := #[23] }, type := 95, pos := "sets.go:56", after := #[{ on := 0, ground := Ground.data }], guard := none }) rfl (fun K hK => ?_) ?_
        · go_simp
          refine (open_any _ _ _ _ (by omega) (by omega)).mono ?_
          rintro e v3 ⟨rfl, hb⟩
          have hb : Below v2.heap.size v2 v3 := ⟨hb.os, hb.tape, hb.output, hb.size, hb.block⟩
          have z : v2.heap.size ≤ v3.heap.size := hb.size
          have hS : HuS w l1 h1 s1 l2 h2 s2 v3 := HuS.keep (show HuS w l1 h1 s1 l2 h2 s2 v2 from hHeld) (hb.mono (HuS.three (show HuS w l1 h1 s1 l2 h2 s2 v2 from hHeld)))
          have B7 := B7.keep hb
          have B8 := B8.keep hb
          go_wp2_with fail
          refine hK.out _ _ hS (fun hHeld => ?_)
          clear hK K hb hHeld
          have hHeld := hS
          clear hS
          try simp only [Act.put, List.setIfInBounds_toArray, List.set_cons_zero, List.set_cons_succ]
          refine wpAnyH_ready (rs := [3]) (by kernel_rfl) (by simp) ?_
          refine AllReadyH.cons (o := { dst := some 21, op := Op.call { callee := Callee.value (Operand.func 100), args := #[Operand.tmp 20], argTypes := #[23] }, type := 95, pos := "sets.go:56", after := #[{ on := 2, ground := Ground.data }, { on := 1, ground := Ground.chain }], guard := none }) rfl (fun K hK => ?_) ?_
          · go_simp
            refine (open_any _ _ _ _ (by omega) (by omega)).mono ?_
            rintro e v4 ⟨rfl, hb⟩
            have hb : Below v3.heap.size v3 v4 := ⟨hb.os, hb.tape, hb.output, hb.size, hb.block⟩
            have z : v3.heap.size ≤ v4.heap.size := hb.size
            have hS : HuS w l1 h1 s1 l2 h2 s2 v4 := HuS.keep (show HuS w l1 h1 s1 l2 h2 s2 v3 from hHeld) (hb.mono (HuS.three (show HuS w l1 h1 s1 l2 h2 s2 v3 from hHeld)))
            have B7 := B7.keep hb
            have B8 := B8.keep hb
            go_wp2_with fail
            refine hK.out _ _ hS (fun hHeld => ?_)
            clear hK K hb hHeld
            have hHeld := hS
            clear hS
            try simp only [Act.put, List.setIfInBounds_toArray, List.set_cons_zero, List.set_cons_succ]
            refine wpAnyH_ready (rs := [6]) (by kernel_rfl) (by simp) ?_
            refine AllReadyH.cons (o := { dst := none, op := Op.store 95 (Operand.tmp 7) (Operand.tmp 19), type := 0, pos := "sets.go:56", after := #[{ on := 4, ground := Ground.data }, { on := 1, ground := Ground.data }, { on := 3, ground := Ground.chain }, { on := 0, ground := Ground.phase }, { on := 1, ground := Ground.phase }, { on := 2, ground := Ground.textOnly Departure.lateStores }, { on := 3, ground := Ground.textOnly Departure.lateStoresUnsure }, { on := 4, ground := Ground.phase }, { on := 5, ground := Ground.phase }], guard := none }) rfl (fun K hK => ?_) ?_
            · have c0 := B7.c0
              have c1 := B7.c1
              have c2 := B7.c2
              have c3 := B7.c3
              have f0 := B7.f0
              have f1 := B7.f1
              have f2 := B7.f2
              have f3 := B7.f3
              go_simp
              have hS : HuS w l1 h1 s1 l2 h2 s2 (set4 v4 (v1.heap.size) (.int .i64 l1) (.int .i64 h1) (.int .i64 (magA s1)) (.bool (decide (s1 < 0)))) := HuS.keep (show HuS w l1 h1 s1 l2 h2 s2 v4 from hHeld) (set4_below K7s _ _ _ _)
              have B7 := B7.set (.int .i64 l1) (.int .i64 h1) (.int .i64 (magA s1)) (.bool (decide (s1 < 0)))
              have B8 := B8.other K78.symm (.int .i64 l1) (.int .i64 h1) (.int .i64 (magA s1)) (.bool (decide (s1 < 0)))
              refine hK.out _ _ hS (fun hHeld => ?_)
              clear hK K c0 c1 c2 c3 f0 f1 f2 f3 hHeld
              have z : v4.heap.size ≤ (set4 v4 (v1.heap.size) (.int .i64 l1) (.int .i64 h1) (.int .i64 (magA s1)) (.bool (decide (s1 < 0)))).heap.size := (set4_below (B := 0) (Nat.zero_le _) _ _ _ _).size
              change wpAnyH _ _ _ _ _ _ _ _ (set4 v4 (v1.heap.size) (.int .i64 l1) (.int .i64 h1) (.int .i64 (magA s1)) (.bool (decide (s1 < 0))))
              generalize set4 v4 (v1.heap.size) (.int .i64 l1) (.int .i64 h1) (.int .i64 (magA s1)) (.bool (decide (s1 < 0))) = v5 at *
              have hHeld := hS
              clear hS
              try simp only [Act.put, List.setIfInBounds_toArray, List.set_cons_zero, List.set_cons_succ]
              refine wpAnyH_ready (rs := [7]) (by kernel_rfl) (by simp) ?_
              refine AllReadyH.cons (o := { dst := none, op := Op.store 95 (Operand.tmp 8) (Operand.tmp 21), type := 0, pos := "sets.go:56", after := #[{ on := 5, ground := Ground.data }, { on := 3, ground := Ground.data }, { on := 6, ground := Ground.chain }, { on := 0, ground := Ground.phase }, { on := 1, ground := Ground.phase }, { on := 2, ground := Ground.phase }, { on := 3, ground := Ground.phase }, { on := 4, ground := Ground.phase }, { on := 5, ground := Ground.phase }, { on := 6, ground := Ground.phase }], guard := none }) rfl (fun K hK => ?_) ?_
              · have c0 := B8.c0
                have c1 := B8.c1
                have c2 := B8.c2
                have c3 := B8.c3
                have f0 := B8.f0
                have f1 := B8.f1
                have f2 := B8.f2
                have f3 := B8.f3
                go_simp
                have hS : HuS w l1 h1 s1 l2 h2 s2 (set4 v5 (v0.heap.size) (.int .i64 l2) (.int .i64 h2) (.int .i64 (magA s2)) (.bool (decide (s2 < 0)))) := HuS.keep (show HuS w l1 h1 s1 l2 h2 s2 v5 from hHeld) (set4_below K8s _ _ _ _)
                have B8 := B8.set (.int .i64 l2) (.int .i64 h2) (.int .i64 (magA s2)) (.bool (decide (s2 < 0)))
                have B7 := B7.other K78 (.int .i64 l2) (.int .i64 h2) (.int .i64 (magA s2)) (.bool (decide (s2 < 0)))
                refine hK.out _ _ hS (fun hHeld => ?_)
                clear hK K c0 c1 c2 c3 f0 f1 f2 f3 hHeld
                have z : v5.heap.size ≤ (set4 v5 (v0.heap.size) (.int .i64 l2) (.int .i64 h2) (.int .i64 (magA s2)) (.bool (decide (s2 < 0)))).heap.size := (set4_below (B := 0) (Nat.zero_le _) _ _ _ _).size
                change wpAnyH _ _ _ _ _ _ _ _ (set4 v5 (v0.heap.size) (.int .i64 l2) (.int .i64 h2) (.int .i64 (magA s2)) (.bool (decide (s2 < 0))))
                generalize set4 v5 (v0.heap.size) (.int .i64 l2) (.int .i64 h2) (.int .i64 (magA s2)) (.bool (decide (s2 < 0))) = v6 at *
                have hHeld := hS
                clear hS
                try simp only [Act.put, List.setIfInBounds_toArray, List.set_cons_zero, List.set_cons_succ]
                refine wpAnyH_done (by kernel_rfl) ?_ _
                go_wp2_with fail
                go_meet
                exact ⟨v1.heap.size, v0.heap.size, rfl, rfl, K78, K7s, K8s, B7, B8, hHeld⟩
              exact AllReadyH.nil
            exact AllReadyH.nil
          exact AllReadyH.nil
        exact AllReadyH.nil
      exact AllReadyH.nil
    exact AllReadyH.nil
  case rest =>
    obtain ⟨g, k, rfl, rfl, hC⟩ := hcut
    have hne := hC.1
    have hg := hC.2.1
    have hk := hC.2.2.1
    have C7 := Lib.hid hC.2.2.2.1
    have C8 := Lib.hid hC.2.2.2.2.1
    have CS := Lib.hid hC.2.2.2.2.2
    clear hC
    by_cases eA : l1 ≤ h1
    · have hA0 := Lib.hid (size_num hA.out eA)
      obtain ⟨nA, hnA⟩ : ∃ n, n = siz l1 h1 s1 := ⟨_, rfl⟩
      have nA1 : (nA == 0) = false := by rw [hnA]; have := hA0.out; simp; omega
      have HnA := Lib.hid hnA.symm
      clear hnA
      by_cases eB : l2 ≤ h2
      · have hB0 := Lib.hid (size_num hB.out eB)
        obtain ⟨nB, hnB⟩ : ∃ n, n = siz l2 h2 s2 := ⟨_, rfl⟩
        have nB1 : decide (0 < nB) = true := by rw [hnB]; have := hB0.out; simp; omega
        have HnB := Lib.hid hnB.symm
        clear hnB
        have x0 := CS.out.1
        have x1 := CS.out.2.1
        have x2 := CS.out.2.2.1
        go_wp2_with fail
        refine (size_val _ _ _ nA _ ⟨by omega, by omega⟩ ⟨by omega, by omega⟩ ⟨by omega, by omega⟩ HnA.out).mono ?_
        rintro e w2 ⟨rfl, hb2⟩
        have hb2 : Below wc.heap.size wc w2 := hb2
        have C7 := Lib.hid (C7.out.keep hb2)
        have C8 := Lib.hid (C8.out.keep hb2)
        have CS := Lib.hid (CS.out.keep (hb2.mono (HuS.three CS.out)))
        have z2 := hb2.size
        clear hb2
        clear x0 x1 x2
        have x0 := CS.out.2.2.2.1
        have x1 := CS.out.2.2.2.2.1
        have x2 := CS.out.2.2.2.2.2.1
        go_wp2_with fail
        refine (size_val _ _ _ nB _ ⟨by omega, by omega⟩ ⟨by omega, by omega⟩ ⟨by omega, by omega⟩ HnB.out).mono ?_
        rintro e w3 ⟨rfl, hb3⟩
        have hb3 : Below w2.heap.size w2 w3 := hb3
        have C7 := Lib.hid (C7.out.keep hb3)
        have C8 := Lib.hid (C8.out.keep hb3)
        have CS := Lib.hid (CS.out.keep (hb3.mono (HuS.three CS.out)))
        have z3 := hb3.size
        clear hb3
        clear x0 x1 x2
        have ga := gapI_bd l1 h1 (magA s1) (by omega) (by omega)
        have gb := gapI_bd l2 h2 (magA s2) (by omega) (by omega)
        go_wp2_with fail
        refine wp_region_held_drew (S := (fun w' => w'.cell? ⟨g, 0, none⟩ = some (.int .i64 l1) ∧ w'.cell? ⟨g, 1, none⟩ = some (.int .i64 h1) ∧ w'.cell? ⟨g, 2, none⟩ = some (.int .i64 (magA s1)) ∧ w'.cell? ⟨g, 3, none⟩ = some (.bool (decide (s1 < 0))) ∧ w'.cell? ⟨k, 0, none⟩ = some (.int .i64 l2) ∧ w'.cell? ⟨k, 1, none⟩ = some (.int .i64 h2) ∧ w'.cell? ⟨k, 2, none⟩ = some (.int .i64 (magA s2)) ∧ w'.cell? ⟨k, 3, none⟩ = some (.bool (decide (s2 < 0))))) (by kernel_rfl) ?_ (fun hHeld => ?_)
        · exact ⟨C7.out.c0, C7.out.c1, C7.out.c2, C7.out.c3, C8.out.c0, C8.out.c1, C8.out.c2, C8.out.c3⟩
        refine wpAnyH_take (i := 0) (oi := { dst := some 32, op := Op.load 95 (Operand.tmp 7), type := 95, pos := "sets.go:62", after := #[], guard := none }) (v := ?_) rfl (by kernel_rfl) (by kernel_rfl) (by kernel_rfl) (fun _ _ _ h => h) (Or.inl ⟨by rfl, ?_⟩) (by assumption) ?_
        rotate_left
        · (intro w hSw; (try dsimp only at hSw); go_simp; first | done | with_reducible rfl)
        try simp only [Act.put, List.setIfInBounds_toArray, List.set_cons_zero, List.set_cons_succ]
        refine wpAnyH_take (i := 2) (oi := { dst := some 34, op := Op.load 95 (Operand.tmp 8), type := 95, pos := "sets.go:62", after := #[], guard := none }) (v := ?_) rfl (by kernel_rfl) (by kernel_rfl) (by kernel_rfl) (fun _ _ _ h => h) (Or.inl ⟨by rfl, ?_⟩) (by assumption) ?_
        rotate_left
        · (intro w hSw; (try dsimp only at hSw); go_simp; first | done | with_reducible rfl)
        try simp only [Act.put, List.setIfInBounds_toArray, List.set_cons_zero, List.set_cons_succ]
        refine wpAnyH_ready (rs := [1]) (by kernel_rfl) (by simp) ?_
        refine AllReadyH.cons (o := { dst := some 33, op := Op.call { callee := Callee.value (Operand.func 124), args := #[Operand.tmp 32], argTypes := #[95] }, type := 3, pos := "sets.go:62", after := #[{ on := 0, ground := Ground.data }], guard := none }) rfl (fun K hK => ?_) AllReadyH.nil
        go_simp
        refine (gap_any _ _ _ _ _).mono ?_
        rintro e w4 ⟨rfl, hb4⟩
        have hb4 : Below w3.heap.size w3 w4 := ⟨hb4.os, hb4.tape, hb4.output, hb4.size, hb4.block⟩
        have C7 := Lib.hid (C7.out.keep hb4)
        have C8 := Lib.hid (C8.out.keep hb4)
        have CS := Lib.hid (CS.out.keep (hb4.mono (HuS.three CS.out)))
        have z4 := hb4.size
        go_wp2_with fail
        refine hK.out _ _ ?_ (fun hHeld1 => ?_)
        · exact ⟨C7.out.c0, C7.out.c1, C7.out.c2, C7.out.c3, C8.out.c0, C8.out.c1, C8.out.c2, C8.out.c3⟩
        clear hK K hHeld
        have hHeld := hHeld1
        clear hHeld1
        try simp only [Act.put, List.setIfInBounds_toArray, List.set_cons_zero, List.set_cons_succ]
        refine wpAnyH_ready (rs := [3]) (by kernel_rfl) (by simp) ?_
        refine AllReadyH.cons (o := { dst := some 35, op := Op.call { callee := Callee.value (Operand.func 124), args := #[Operand.tmp 34], argTypes := #[95] }, type := 3, pos := "sets.go:62", after := #[{ on := 2, ground := Ground.data }, { on := 1, ground := Ground.chain }], guard := none }) rfl (fun K hK => ?_) AllReadyH.nil
        go_simp
        refine (gap_any _ _ _ _ _).mono ?_
        rintro e w5 ⟨rfl, hb5⟩
        have hb5 : Below w4.heap.size w4 w5 := ⟨hb5.os, hb5.tape, hb5.output, hb5.size, hb5.block⟩
        have C7 := Lib.hid (C7.out.keep hb5)
        have C8 := Lib.hid (C8.out.keep hb5)
        have CS := Lib.hid (CS.out.keep (hb5.mono (HuS.three CS.out)))
        have z5 := hb5.size
        go_wp2_with fail
        refine hK.out _ _ ?_ (fun hHeld3 => ?_)
        · exact ⟨C7.out.c0, C7.out.c1, C7.out.c2, C7.out.c3, C8.out.c0, C8.out.c1, C8.out.c2, C8.out.c3⟩
        clear hK K hHeld
        have hHeld := hHeld3
        clear hHeld3
        try simp only [Act.put, List.setIfInBounds_toArray, List.set_cons_zero, List.set_cons_succ]
        refine wpAnyH_ready (rs := [4]) (by kernel_rfl) (by simp) ?_
        refine AllReadyH.cons (o := { dst := some 36, op := Op.call { callee := Callee.value (Operand.func 123), args := #[Operand.tmp 33, Operand.tmp 35], argTypes := #[3, 3] }, type := 113, pos := "sets.go:62", after := #[{ on := 1, ground := Ground.data }, { on := 3, ground := Ground.data }, { on := 3, ground := Ground.chain }], guard := none }) rfl (fun K hK => ?_) AllReadyH.nil
        go_simp
        refine (euclid_any _ _ _ (by omega) (by omega) (by omega) (by omega)).mono ?_
        rintro e w6 ⟨d1, q1, E1, rfl, hb6⟩
        have hb6 : Below w5.heap.size w5 w6 := ⟨hb6.os, hb6.tape, hb6.output, hb6.size, hb6.block⟩
        have C7 := Lib.hid (C7.out.keep hb6)
        have C8 := Lib.hid (C8.out.keep hb6)
        have CS := Lib.hid (CS.out.keep (hb6.mono (HuS.three CS.out)))
        have z6 := hb6.size
        have HE1 := Lib.hid E1
        have e1n := E1.n
        have e1m := E1.m
        clear E1
        go_wp2_with fail
        refine hK.out _ _ ?_ (fun hHeld4 => ?_)
        · exact ⟨C7.out.c0, C7.out.c1, C7.out.c2, C7.out.c3, C8.out.c0, C8.out.c1, C8.out.c2, C8.out.c3⟩
        clear hK K hHeld
        have hHeld := hHeld4
        clear hHeld4
        try simp only [Act.put, List.setIfInBounds_toArray, List.set_cons_zero, List.set_cons_succ]
        refine wpAnyH_take (i := 5) (oi := { dst := some 31, op := Op.move (Operand.tmp 36), type := 113, pos := "sets.go:62", after := #[{ on := 4, ground := Ground.data }], guard := none }) (v := ?_) rfl (by kernel_rfl) (by kernel_rfl) (by kernel_rfl) (fun _ _ _ h => h) (Or.inl ⟨by rfl, ?_⟩) (by assumption) ?_
        rotate_left
        · (intro w hSw; (try dsimp only at hSw); go_simp; first | done | with_reducible rfl)
        try simp only [Act.put, List.setIfInBounds_toArray, List.set_cons_zero, List.set_cons_succ]
        refine wpAnyH_take (i := 6) (oi := { dst := some 37, op := Op.extract (Operand.tmp 31) 0, type := 3, pos := "sets.go:62", after := #[{ on := 5, ground := Ground.data }], guard := none }) (v := ?_) rfl (by kernel_rfl) (by kernel_rfl) (by kernel_rfl) (fun _ _ _ h => h) (Or.inl ⟨by rfl, ?_⟩) (by assumption) ?_
        rotate_left
        · (intro w hSw; (try dsimp only at hSw); go_simp; first | done | with_reducible rfl)
        try simp only [Act.put, List.setIfInBounds_toArray, List.set_cons_zero, List.set_cons_succ]
        refine wpAnyH_take (i := 7) (oi := { dst := some 38, op := Op.extract (Operand.tmp 31) 1, type := 3, pos := "sets.go:62", after := #[{ on := 5, ground := Ground.data }, { on := 8, ground := Ground.gcOnly Departure.lateStores }], guard := none }) (v := ?_) rfl (by kernel_rfl) (by kernel_rfl) (by kernel_rfl) (fun _ _ _ h => h) (Or.inl ⟨by rfl, ?_⟩) (by assumption) ?_
        rotate_left
        · (intro w hSw; (try dsimp only at hSw); go_simp; first | done | with_reducible rfl)
        try simp only [Act.put, List.setIfInBounds_toArray, List.set_cons_zero, List.set_cons_succ]
        refine wpAnyH_take (i := 8) (oi := { dst := some 9, op := Op.assign (Operand.tmp 37), type := 3, pos := "sets.go:62", after := #[{ on := 6, ground := Ground.data }, { on := 4, ground := Ground.chain }, { on := 0, ground := Ground.phase }, { on := 1, ground := Ground.phase }, { on := 2, ground := Ground.phase }, { on := 3, ground := Ground.phase }, { on := 4, ground := Ground.phase }, { on := 5, ground := Ground.phase }, { on := 6, ground := Ground.phase }, { on := 7, ground := Ground.textOnly Departure.lateStores }], guard := none }) (v := ?_) rfl (by kernel_rfl) (by kernel_rfl) (by kernel_rfl) (fun _ _ _ h => h) (Or.inl ⟨by rfl, ?_⟩) (by assumption) ?_
        rotate_left
        · (intro w hSw; (try dsimp only at hSw); go_simp; first | done | with_reducible rfl)
        try simp only [Act.put, List.setIfInBounds_toArray, List.set_cons_zero, List.set_cons_succ]
        refine wpAnyH_take (i := 9) (oi := { dst := some 10, op := Op.assign (Operand.tmp 38), type := 3, pos := "sets.go:62", after := #[{ on := 7, ground := Ground.data }, { on := 8, ground := Ground.chain }, { on := 0, ground := Ground.phase }, { on := 1, ground := Ground.phase }, { on := 2, ground := Ground.phase }, { on := 3, ground := Ground.phase }, { on := 4, ground := Ground.phase }, { on := 5, ground := Ground.phase }, { on := 6, ground := Ground.phase }, { on := 7, ground := Ground.phase }, { on := 8, ground := Ground.phase }], guard := none }) (v := ?_) rfl (by kernel_rfl) (by kernel_rfl) (by kernel_rfl) (fun _ _ _ h => h) (Or.inl ⟨by rfl, ?_⟩) (by assumption) ?_
        rotate_left
        · (intro w hSw; (try dsimp only at hSw); go_simp; first | done | with_reducible rfl)
        try simp only [Act.put, List.setIfInBounds_toArray, List.set_cons_zero, List.set_cons_succ]
        refine wpAnyH_done (by kernel_rfl) ?_ _
        clear hHeld hb4 hb5 hb6 ga gb
        have m0 := magA_nonneg (l1 - l2)
        have m1 : magA (l1 - l2) ≤ 2000000 := by unfold magA; split <;> omega
        have c0 := C7.out.c0
        have c1 := C7.out.c1
        have c2 := C7.out.c2
        have c3 := C7.out.c3
        have y0 := C8.out.c0
        have y1 := C8.out.c1
        have y2 := C8.out.c2
        have y3 := C8.out.c3
        go_wp2_with fail
        refine (magnitude_any _ _ (by omega) (by omega)).mono ?_
        rintro e w' ⟨rfl, rfl⟩
        go_wp2_with fail
        refine (euclid_any _ _ _ (by omega) (by omega) (by omega) (by omega)).mono ?_
        rintro e w7 ⟨d2, q2, E2, rfl, hb7⟩
        have hb7 : Below w6.heap.size w6 w7 := ⟨hb7.os, hb7.tape, hb7.output, hb7.size, hb7.block⟩
        have HE2 := Lib.hid E2
        have e2n := E2.n
        have e2m := E2.m
        have C7 := Lib.hid (C7.out.keep hb7)
        have C8 := Lib.hid (C8.out.keep hb7)
        have CS := Lib.hid (CS.out.keep (hb7.mono (HuS.three CS.out)))
        clear E2 hb7 c0 c1 c2 c3 y0 y1 y2 y3
        obtain ⟨lo, hlo⟩ : ∃ lo, lo = min l1 l2 := ⟨_, rfl⟩
        obtain ⟨hi, hhi⟩ : ∃ hi, hi = max h1 h2 := ⟨_, rfl⟩
        have km : (if l2 < l1 then l2 else l1) = lo := by rw [hlo]; split <;> omega
        have kn : (if h1 < h2 then h2 else h1) = hi := by rw [hhi]; split <;> omega
        have HLO := Lib.hid hlo
        have HHI := Lib.hid hhi
        clear hlo hhi m0 m1
        have c0 := C7.out.c0
        have c1 := C7.out.c1
        have c2 := C7.out.c2
        have c3 := C7.out.c3
        have f0 := C7.out.f0
        have f1 := C7.out.f1
        have f2 := C7.out.f2
        have f3 := C7.out.f3
        have y0 := C8.out.c0
        have y1 := C8.out.c1
        have y2 := C8.out.c2
        have y3 := C8.out.c3
        go_upto_region 11 with fail
        have D7 := Lib.hid (C7.out.set (.int .i64 lo) (.int .i64 hi) (.int .i64 d2) (.bool false))
        have DS := Lib.hid (CS.out.keep (set4_below hg (.int .i64 lo) (.int .i64 hi) (.int .i64 d2) (.bool false)))
        change Code.wp _ _ _ _ (set4 w7 g (.int .i64 lo) (.int .i64 hi) (.int .i64 d2) (.bool false))
        clear c0 c1 c2 c3 f0 f1 f2 f3 y0 y1 y2 y3 C7 C8 CS km kn
        generalize set4 w7 g (.int .i64 lo) (.int .i64 hi) (.int .i64 d2) (.bool false) = w8 at *
        have C7 := D7
        have CS := DS
        clear D7 DS
        have c0 := C7.out.c0
        have c1 := C7.out.c1
        have c2 := C7.out.c2
        have c3 := C7.out.c3
        have f0 := C7.out.f0
        have f1 := C7.out.f1
        have f2 := C7.out.f2
        have f3 := C7.out.f3
        go_upto_region 12 with fail
        have D7 := Lib.hid (C7.out.set3 (.bool false))
        have DS := Lib.hid (CS.out.keep (set3_below hg (.bool false)))
        change Code.wp _ _ _ _ (World.setCell _ ⟨g, 3, none⟩ (.bool false))
        clear c0 c1 c2 c3 f0 f1 f2 f3
        generalize World.setCell _ ⟨g, 3, none⟩ (.bool false) = w9 at *
        have c0 := D7.out.c0
        have c1 := D7.out.c1
        have c2 := D7.out.c2
        have c3 := D7.out.c3
        have z9 := HuS.three DS.out
        go_wp2_with fail
        refine (normal_any _ _ _ _ _ (by omega) (by omega)).mono ?_
        rintro e w10 ⟨rfl, hb10⟩
        have hb10 : Below w9.heap.size w9 w10 := hb10
        have ES := Lib.hid (DS.out.keep (hb10.mono z9))
        clear hb10 c0 c1 c2 c3 D7 DS
        have r0 := ES.out.2.2.2.2.2.2.r.1
        have r1 := ES.out.2.2.2.2.2.2.r.2.1
        have r2 := ES.out.2.2.2.2.2.2.r.2.2
        have f0 := ES.out.2.2.2.2.2.2.f.1
        have f1 := ES.out.2.2.2.2.2.2.f.2.1
        have f2 := ES.out.2.2.2.2.2.2.f.2.2
        go_wp2
        refine bodyPost_ret (v := .tuple #[.agg #[.int .i64 (nL (lo) (hi)), .int .i64 (nH (lo) (hi)), .int .i64 (nS (lo) (hi) (d2) false)], .int .i64 0]) (by simp [results, Try.results44, go_sem, *]) rfl ⟨_, _, _, ?_, rfl, ?_⟩
        · exact ⟨hull_both hA.out eA hB.out eB HE1.out HE2.out HLO.out HHI.out, nS_asc HE2.out.n⟩
        · repeat (first | exact ES.out.2.2.2.2.2.2.below | refine Below.setCell ?_ (by simp; try omega) _)
      · have zB := Lib.hid (empty_a hB.out eB)
        have x0 := CS.out.1
        have x1 := CS.out.2.1
        have x2 := CS.out.2.2.1
        go_wp2_with fail
        refine (size_val _ _ _ nA _ ⟨by omega, by omega⟩ ⟨by omega, by omega⟩ ⟨by omega, by omega⟩ HnA.out).mono ?_
        rintro e w2 ⟨rfl, hb2⟩
        have hb2 : Below wc.heap.size wc w2 := hb2
        have C7 := Lib.hid (C7.out.keep hb2)
        have C8 := Lib.hid (C8.out.keep hb2)
        have CS := Lib.hid (CS.out.keep (hb2.mono (HuS.three CS.out)))
        have z2 := hb2.size
        clear hb2
        clear x0 x1 x2
        have x0 := CS.out.2.2.2.1
        have x1 := CS.out.2.2.2.2.1
        have x2 := CS.out.2.2.2.2.2.1
        go_wp2_with fail
        refine (size_val _ _ _ 0 _ ⟨by omega, by omega⟩ ⟨by omega, by omega⟩ ⟨by omega, by omega⟩ zB.out).mono ?_
        rintro e w3 ⟨rfl, hb3⟩
        have hb3 : Below w2.heap.size w2 w3 := hb3
        have C7 := Lib.hid (C7.out.keep hb3)
        have C8 := Lib.hid (C8.out.keep hb3)
        have CS := Lib.hid (CS.out.keep (hb3.mono (HuS.three CS.out)))
        have z3 := hb3.size
        clear hb3
        clear x0 x1 x2
        have c0 := C7.out.c0
        have c1 := C7.out.c1
        have c2 := C7.out.c2
        have c3 := C7.out.c3
        have f0 := C7.out.f0
        have f1 := C7.out.f1
        have f2 := C7.out.f2
        have f3 := C7.out.f3
        go_upto_region 12 with fail
        have D7 := Lib.hid (C7.out.set3 (.bool false))
        have DS := Lib.hid (CS.out.keep (set3_below hg (.bool false)))
        change Code.wp _ _ _ _ (World.setCell _ ⟨g, 3, none⟩ (.bool false))
        clear c0 c1 c2 c3 f0 f1 f2 f3
        generalize World.setCell _ ⟨g, 3, none⟩ (.bool false) = w9 at *
        have c0 := D7.out.c0
        have c1 := D7.out.c1
        have c2 := D7.out.c2
        have c3 := D7.out.c3
        have z9 := HuS.three DS.out
        go_wp2_with fail
        refine (normal_any _ _ _ _ _ (by omega) (by omega)).mono ?_
        rintro e w10 ⟨rfl, hb10⟩
        have hb10 : Below w9.heap.size w9 w10 := hb10
        have ES := Lib.hid (DS.out.keep (hb10.mono z9))
        clear hb10 c0 c1 c2 c3 D7 DS
        have r0 := ES.out.2.2.2.2.2.2.r.1
        have r1 := ES.out.2.2.2.2.2.2.r.2.1
        have r2 := ES.out.2.2.2.2.2.2.r.2.2
        have f0 := ES.out.2.2.2.2.2.2.f.1
        have f1 := ES.out.2.2.2.2.2.2.f.2.1
        have f2 := ES.out.2.2.2.2.2.2.f.2.2
        go_wp2
        refine bodyPost_ret (v := .tuple #[.agg #[.int .i64 (nL (l1) (h1)), .int .i64 (nH (l1) (h1)), .int .i64 (nS (l1) (h1) (magA s1) false)], .int .i64 0]) (by simp [results, Try.results44, go_sem, *]) rfl ⟨_, _, _, ?_, rfl, ?_⟩
        · exact ⟨hull_left hA.out eA hB.out (by omega), nS_asc (magA_nonneg _)⟩
        · repeat (first | exact ES.out.2.2.2.2.2.2.below | refine Below.setCell ?_ (by simp; try omega) _)
    · have zA := Lib.hid (empty_a hA.out eA)
      have x0 := CS.out.1
      have x1 := CS.out.2.1
      have x2 := CS.out.2.2.1
      go_wp2_with fail
      refine (size_val _ _ _ 0 _ ⟨by omega, by omega⟩ ⟨by omega, by omega⟩ ⟨by omega, by omega⟩ zA.out).mono ?_
      rintro e w2 ⟨rfl, hb2⟩
      have hb2 : Below wc.heap.size wc w2 := hb2
      have C7 := Lib.hid (C7.out.keep hb2)
      have C8 := Lib.hid (C8.out.keep hb2)
      have CS := Lib.hid (CS.out.keep (hb2.mono (HuS.three CS.out)))
      have z2 := hb2.size
      clear hb2
      clear x0 x1 x2
      have c0 := C7.out.c0
      have c1 := C7.out.c1
      have c2 := C7.out.c2
      have c3 := C7.out.c3
      have f0 := C7.out.f0
      have f1 := C7.out.f1
      have f2 := C7.out.f2
      have f3 := C7.out.f3
      have d0 := C8.out.c0
      have d1 := C8.out.c1
      have d2 := C8.out.c2
      have d3 := C8.out.c3
      go_upto_region 11 with fail
      have D7 := Lib.hid (C7.out.set (.int .i64 l2) (.int .i64 h2) (.int .i64 (magA s2)) (.bool (decide (s2 < 0))))
      have DS := Lib.hid (CS.out.keep (set4_below hg (.int .i64 l2) (.int .i64 h2) (.int .i64 (magA s2)) (.bool (decide (s2 < 0)))))
      change Code.wp _ _ _ _ (set4 w2 g (.int .i64 l2) (.int .i64 h2) (.int .i64 (magA s2)) (.bool (decide (s2 < 0))))
      clear c0 c1 c2 c3 f0 f1 f2 f3 d0 d1 d2 d3 C7 C8 CS z2
      generalize set4 w2 g (.int .i64 l2) (.int .i64 h2) (.int .i64 (magA s2)) (.bool (decide (s2 < 0))) = w3 at *
      have C7 := D7
      have CS := DS
      clear D7 DS
      have c0 := C7.out.c0
      have c1 := C7.out.c1
      have c2 := C7.out.c2
      have c3 := C7.out.c3
      have f0 := C7.out.f0
      have f1 := C7.out.f1
      have f2 := C7.out.f2
      have f3 := C7.out.f3
      go_upto_region 12 with fail
      have D7 := Lib.hid (C7.out.set3 (.bool false))
      have DS := Lib.hid (CS.out.keep (set3_below hg (.bool false)))
      change Code.wp _ _ _ _ (World.setCell _ ⟨g, 3, none⟩ (.bool false))
      clear c0 c1 c2 c3 f0 f1 f2 f3
      generalize World.setCell _ ⟨g, 3, none⟩ (.bool false) = w9 at *
      have c0 := D7.out.c0
      have c1 := D7.out.c1
      have c2 := D7.out.c2
      have c3 := D7.out.c3
      have z9 := HuS.three DS.out
      go_wp2_with fail
      refine (normal_any _ _ _ _ _ (by omega) (by omega)).mono ?_
      rintro e w10 ⟨rfl, hb10⟩
      have hb10 : Below w9.heap.size w9 w10 := hb10
      have ES := Lib.hid (DS.out.keep (hb10.mono z9))
      clear hb10 c0 c1 c2 c3 D7 DS
      have r0 := ES.out.2.2.2.2.2.2.r.1
      have r1 := ES.out.2.2.2.2.2.2.r.2.1
      have r2 := ES.out.2.2.2.2.2.2.r.2.2
      have f0 := ES.out.2.2.2.2.2.2.f.1
      have f1 := ES.out.2.2.2.2.2.2.f.2.1
      have f2 := ES.out.2.2.2.2.2.2.f.2.2
      go_wp2
      refine bodyPost_ret (v := .tuple #[.agg #[.int .i64 (nL (l2) (h2)), .int .i64 (nH (l2) (h2)), .int .i64 (nS (l2) (h2) (magA s2) false)], .int .i64 0]) (by simp [results, Try.results44, go_sem, *]) rfl ⟨_, _, _, ?_, rfl, ?_⟩
      · exact ⟨hull_right hA.out (by omega) hB.out, nS_asc (magA_nonneg _)⟩
      · repeat (first | exact ES.out.2.2.2.2.2.2.below | refine Below.setCell ?_ (by simp; try omega) _)

theorem Hull_ok (l1 h1 s1 l2 h2 s2 : Int) (w : World) (hA : Hid (chk l1 h1 s1 = 0)) (hB : Hid (chk l2 h2 s2 = 0)) :
    Calls Try.prog 44 #[.agg #[.int .i64 l1, .int .i64 h1, .int .i64 s1], .agg #[.int .i64 l2, .int .i64 h2, .int .i64 s2]] w (HullRet l1 h1 s1 l2 h2 s2 w) :=
  (Hull_dir l1 h1 s1 l2 h2 s2 w hA hB).mono fun _ _ ⟨l, h, s, hc, he, hb⟩ => ⟨l, h, s, hc.1, he, hb⟩
end Go.Proofs.Ytdifilndpilboaa
