/-
  The walk of the law SpanChanges: it returns true for every range and every number, and no block that was there before has changed.
-/
import Derived.Test.YtkkinnjjanbmjaaPairC
import Derived.Test.YtkkinnjjanbmjaaLawOf
import Derived.WalkKit
import Derived.WalkSpells
import Derived.WalkLawsBesides
import Derived.Laws.EntriesVeiled
import Derived.Lib.Hide
namespace Go.Proofs.Ytkkinnjjanbmjaa
open Go.RowKit Go.Op

theorem neq_range_self (a b c : Int) (w : World) : (binOp .neq 23 (.agg #[.int .i64 a, .int .i64 b, .int .i64 c]) (.agg #[.int .i64 a, .int .i64 b, .int .i64 c])).run Try.prog w = .ok (.bool false) w := by
  simp [go_sem]

/-- the law's own blocks: the range, and the table of functions -/
structure ChTab (B : Nat) (l h s : Int) (w : World) : Prop where
  size : B + 1 < w.heap.size
  x0 : w.cell? ⟨B, 0, none⟩ = some (.int .i64 l)
  x1 : w.cell? ⟨B, 1, none⟩ = some (.int .i64 h)
  x2 : w.cell? ⟨B, 2, none⟩ = some (.int .i64 s)
  f0 : w.cell? ⟨B + 1, 0, none⟩ = some (.func (.func 28) #[] #[])
  f1 : w.cell? ⟨B + 1, 1, none⟩ = some (.func (.func 29) #[] #[])
  f2 : w.cell? ⟨B + 1, 2, none⟩ = some (.func (.func 30) #[] #[])
  f3 : w.cell? ⟨B + 1, 3, none⟩ = some (.func (.func 31) #[] #[])
  f4 : w.cell? ⟨B + 1, 4, none⟩ = some (.func (.func 32) #[] #[])
  f5 : w.cell? ⟨B + 1, 5, none⟩ = some (.func (.func 33) #[] #[])
  f6 : w.cell? ⟨B + 1, 6, none⟩ = some (.func (.func 34) #[] #[])
  f7 : w.cell? ⟨B + 1, 7, none⟩ = some (.func (.func 35) #[] #[])
  f8 : w.cell? ⟨B + 1, 8, none⟩ = some (.func (.func 36) #[] #[])
  f9 : w.cell? ⟨B + 1, 9, none⟩ = some (.func (.func 37) #[] #[])
  f10 : w.cell? ⟨B + 1, 10, none⟩ = some (.func (.func 38) #[] #[])
  f11 : w.cell? ⟨B + 1, 11, none⟩ = some (.func (.func 39) #[] #[])

theorem ChTab.keep {B : Nat} {l h s : Int} {w w1 : World} (t : ChTab B l h s w) (hb : Below w.heap.size w w1) : ChTab B l h s w1 := by
  have s0 : B < w.heap.size := Nat.lt_of_succ_lt t.size
  have s1 := t.size
  exact ⟨Nat.lt_of_lt_of_le s1 hb.size, (hb.cell (p := ⟨B, 0, none⟩) s0).trans t.x0, (hb.cell (p := ⟨B, 1, none⟩) s0).trans t.x1, (hb.cell (p := ⟨B, 2, none⟩) s0).trans t.x2,
    (hb.cell (p := ⟨B + 1, 0, none⟩) s1).trans t.f0, (hb.cell (p := ⟨B + 1, 1, none⟩) s1).trans t.f1, (hb.cell (p := ⟨B + 1, 2, none⟩) s1).trans t.f2, (hb.cell (p := ⟨B + 1, 3, none⟩) s1).trans t.f3, (hb.cell (p := ⟨B + 1, 4, none⟩) s1).trans t.f4, (hb.cell (p := ⟨B + 1, 5, none⟩) s1).trans t.f5, (hb.cell (p := ⟨B + 1, 6, none⟩) s1).trans t.f6, (hb.cell (p := ⟨B + 1, 7, none⟩) s1).trans t.f7, (hb.cell (p := ⟨B + 1, 8, none⟩) s1).trans t.f8, (hb.cell (p := ⟨B + 1, 9, none⟩) s1).trans t.f9, (hb.cell (p := ⟨B + 1, 10, none⟩) s1).trans t.f10, (hb.cell (p := ⟨B + 1, 11, none⟩) s1).trans t.f11⟩

/-- a block of two cells that the call itself made, behind a call -/
theorem box2 {w w1 : World} {t : TypeId} {a b : Value} (hb : Below (w.alloc (.cells #[a, b] t)).heap.size (w.alloc (.cells #[a, b] t)) w1) :
    Below w.heap.size w w1 ∧ w.heap.size < w1.heap.size ∧ w1.cell? ⟨w.heap.size, 0, none⟩ = some a ∧ w1.cell? ⟨w.heap.size, 1, none⟩ = some b := by
  have hs : w.heap.size < (w.alloc (.cells #[a, b] t)).heap.size := by simp
  refine ⟨((Below.refl _ _).alloc (Nat.le_refl _) _).trans (hb.mono (by omega)), Nat.lt_of_lt_of_le hs hb.size, ?_, ?_⟩
  · rw [hb.cell (p := ⟨w.heap.size, 0, none⟩) hs]; simp [go_sem]
  · rw [hb.cell (p := ⟨w.heap.size, 1, none⟩) hs]; simp [go_sem]

theorem alloc_keep (w : World) (o : Obj) {a : Addr} (h : a.block < w.heap.size) : (w.alloc o).cell? a = w.cell? a :=
  ((Below.refl w.heap.size w).alloc (Nat.le_refl _) o).cell h

set_option maxHeartbeats 6400000 in
theorem spanChanges_walk (l h s n : Int) (w : World) (hl : I64 l) (hh : I64 h) (hs : I64 s) (hn : I64 n) :
    Calls Try.prog 4 #[.agg #[.int .i64 l, .int .i64 h, .int .i64 s], .int .i64 n] w fun e w' => e = .returned (.bool true) ∧ Below w.heap.size w w' := by
  go_enter Try.func4, Try.ntmps4
  go_wp2_with fail
  go_loopw [19] (fun i wr => ∃ k : Nat, k ≤ 6 ∧ i = .int .i64 k ∧ Hid (Below w.heap.size w wr) ∧ Hid (ChTab w.heap.size l h s wr)) (fun i _ => 6 - (intOf i).toNat)
  case atStart =>
    refine ⟨0, by omega, rfl, ((Below.refl _ _).alloc (Nat.le_refl _) _).alloc (by simp) _, ?_⟩
    constructor <;> simp [go_sem]
  case round =>
    obtain ⟨k, hk, rfl, HB, HT⟩ := hrel
    have hkk : k = 0 ∨ k = 1 ∨ k = 2 ∨ k = 3 ∨ k = 4 ∨ k = 5 ∨ k = 6 := by omega
    clear hk
    rcases hkk with rfl | rfl | rfl | rfl | rfl | rfl | rfl
    · obtain ⟨a, b, c, e, r1, r2⟩ := pairBy l h s n hl hh hs hn
      have R1 := Lib.hid r1
      have R2 := Lib.hid r2
      clear r1 r2
      have hq := neq_range_self a b c
      obtain ⟨x0, x1, x2, y0, y1⟩ : (∀ o, (wr.alloc o).cell? ⟨w.heap.size, 0, none⟩ = some (.int .i64 l)) ∧ (∀ o, (wr.alloc o).cell? ⟨w.heap.size, 1, none⟩ = some (.int .i64 h)) ∧ (∀ o, (wr.alloc o).cell? ⟨w.heap.size, 2, none⟩ = some (.int .i64 s)) ∧ wr.cell? ⟨w.heap.size + 1, 0, none⟩ = some (.func (.func 28) #[] #[]) ∧ wr.cell? ⟨w.heap.size + 1, 1, none⟩ = some (.func (.func 29) #[] #[]) := by
        have T := HT.out
        have z := T.size
        exact ⟨fun o => (alloc_keep wr o (by simp; omega)).trans T.x0, fun o => (alloc_keep wr o (by simp; omega)).trans T.x1, fun o => (alloc_keep wr o (by simp; omega)).trans T.x2, T.f0, T.f1⟩
      go_wp2_with fail
      refine (R1.out _).mono ?_
      rintro e1 w1 ⟨rfl, hb1⟩
      obtain ⟨B1, z1, c0, c1⟩ := box2 hb1
      have T1 := Lib.hid (HT.out.keep B1)
      have B1' := hidTrans HB B1 (by have := HT.out.size; omega)
      clear hb1 HB HT B1 x0 x1 x2 y0 y1
      obtain ⟨x0, x1, x2, y1⟩ : (∀ o, (w1.alloc o).cell? ⟨w.heap.size, 0, none⟩ = some (.int .i64 l)) ∧ (∀ o, (w1.alloc o).cell? ⟨w.heap.size, 1, none⟩ = some (.int .i64 h)) ∧ (∀ o, (w1.alloc o).cell? ⟨w.heap.size, 2, none⟩ = some (.int .i64 s)) ∧ (∀ o, (w1.alloc o).cell? ⟨wr.heap.size, 1, none⟩ = some (.func (.func 29) #[] #[])) := by
        have T := T1.out
        have z := T.size
        exact ⟨fun o => (alloc_keep w1 o (by simp; omega)).trans T.x0, fun o => (alloc_keep w1 o (by simp; omega)).trans T.x1, fun o => (alloc_keep w1 o (by simp; omega)).trans T.x2, fun o => (alloc_keep w1 o (by simp; omega)).trans c1⟩
      clear c0 c1
      go_wp2_with fail
      refine (R2.out _).mono ?_
      rintro e2 w2 ⟨rfl, hb2⟩
      obtain ⟨B2, z2, d0, d1, d2⟩ := box3 hb2
      have T2 := Lib.hid (T1.out.keep B2.out)
      have B2' := hidTrans B1' B2.out (by have := T1.out.size; omega)
      clear hb2 T1 B1' B2 x0 x1 x2 y1
      obtain ⟨u0, u1, u2⟩ : (∀ o, (w2.alloc o).cell? ⟨w1.heap.size, 0, none⟩ = some (.int .i64 a)) ∧ (∀ o, (w2.alloc o).cell? ⟨w1.heap.size, 1, none⟩ = some (.int .i64 b)) ∧ (∀ o, (w2.alloc o).cell? ⟨w1.heap.size, 2, none⟩ = some (.int .i64 c)) :=
        ⟨fun o => (alloc_keep w2 o (by simp; omega)).trans d0, fun o => (alloc_keep w2 o (by simp; omega)).trans d1, fun o => (alloc_keep w2 o (by simp; omega)).trans d2⟩
      clear d0 d1 d2
      go_wp2
      go_roundw
      case rel => exact ⟨1, by omega, rfl, B2'.out.alloc (by have := T2.out.size; omega) _, T2.out.keep ((Below.refl _ _).alloc (Nat.le_refl _) _)⟩
      case measure => simp [intOf]
    · obtain ⟨a, b, c, e, r1, r2⟩ := pairCount l h s n hl hh hs hn
      have R1 := Lib.hid r1
      have R2 := Lib.hid r2
      clear r1 r2
      have hq := neq_range_self a b c
      obtain ⟨x0, x1, x2, y0, y1⟩ : (∀ o, (wr.alloc o).cell? ⟨w.heap.size, 0, none⟩ = some (.int .i64 l)) ∧ (∀ o, (wr.alloc o).cell? ⟨w.heap.size, 1, none⟩ = some (.int .i64 h)) ∧ (∀ o, (wr.alloc o).cell? ⟨w.heap.size, 2, none⟩ = some (.int .i64 s)) ∧ wr.cell? ⟨w.heap.size + 1, 2, none⟩ = some (.func (.func 30) #[] #[]) ∧ wr.cell? ⟨w.heap.size + 1, 3, none⟩ = some (.func (.func 31) #[] #[]) := by
        have T := HT.out
        have z := T.size
        exact ⟨fun o => (alloc_keep wr o (by simp; omega)).trans T.x0, fun o => (alloc_keep wr o (by simp; omega)).trans T.x1, fun o => (alloc_keep wr o (by simp; omega)).trans T.x2, T.f2, T.f3⟩
      go_wp2_with fail
      refine (R1.out _).mono ?_
      rintro e1 w1 ⟨rfl, hb1⟩
      obtain ⟨B1, z1, c0, c1⟩ := box2 hb1
      have T1 := Lib.hid (HT.out.keep B1)
      have B1' := hidTrans HB B1 (by have := HT.out.size; omega)
      clear hb1 HB HT B1 x0 x1 x2 y0 y1
      obtain ⟨x0, x1, x2, y1⟩ : (∀ o, (w1.alloc o).cell? ⟨w.heap.size, 0, none⟩ = some (.int .i64 l)) ∧ (∀ o, (w1.alloc o).cell? ⟨w.heap.size, 1, none⟩ = some (.int .i64 h)) ∧ (∀ o, (w1.alloc o).cell? ⟨w.heap.size, 2, none⟩ = some (.int .i64 s)) ∧ (∀ o, (w1.alloc o).cell? ⟨wr.heap.size, 1, none⟩ = some (.func (.func 31) #[] #[])) := by
        have T := T1.out
        have z := T.size
        exact ⟨fun o => (alloc_keep w1 o (by simp; omega)).trans T.x0, fun o => (alloc_keep w1 o (by simp; omega)).trans T.x1, fun o => (alloc_keep w1 o (by simp; omega)).trans T.x2, fun o => (alloc_keep w1 o (by simp; omega)).trans c1⟩
      clear c0 c1
      go_wp2_with fail
      refine (R2.out _).mono ?_
      rintro e2 w2 ⟨rfl, hb2⟩
      obtain ⟨B2, z2, d0, d1, d2⟩ := box3 hb2
      have T2 := Lib.hid (T1.out.keep B2.out)
      have B2' := hidTrans B1' B2.out (by have := T1.out.size; omega)
      clear hb2 T1 B1' B2 x0 x1 x2 y1
      obtain ⟨u0, u1, u2⟩ : (∀ o, (w2.alloc o).cell? ⟨w1.heap.size, 0, none⟩ = some (.int .i64 a)) ∧ (∀ o, (w2.alloc o).cell? ⟨w1.heap.size, 1, none⟩ = some (.int .i64 b)) ∧ (∀ o, (w2.alloc o).cell? ⟨w1.heap.size, 2, none⟩ = some (.int .i64 c)) :=
        ⟨fun o => (alloc_keep w2 o (by simp; omega)).trans d0, fun o => (alloc_keep w2 o (by simp; omega)).trans d1, fun o => (alloc_keep w2 o (by simp; omega)).trans d2⟩
      clear d0 d1 d2
      go_wp2
      go_roundw
      case rel => exact ⟨2, by omega, rfl, B2'.out.alloc (by have := T2.out.size; omega) _, T2.out.keep ((Below.refl _ _).alloc (Nat.le_refl _) _)⟩
      case measure => simp [intOf]
    · obtain ⟨a, b, c, e, r1, r2⟩ := pairTranslate l h s n hl hh hs hn
      have R1 := Lib.hid r1
      have R2 := Lib.hid r2
      clear r1 r2
      have hq := neq_range_self a b c
      obtain ⟨x0, x1, x2, y0, y1⟩ : (∀ o, (wr.alloc o).cell? ⟨w.heap.size, 0, none⟩ = some (.int .i64 l)) ∧ (∀ o, (wr.alloc o).cell? ⟨w.heap.size, 1, none⟩ = some (.int .i64 h)) ∧ (∀ o, (wr.alloc o).cell? ⟨w.heap.size, 2, none⟩ = some (.int .i64 s)) ∧ wr.cell? ⟨w.heap.size + 1, 4, none⟩ = some (.func (.func 32) #[] #[]) ∧ wr.cell? ⟨w.heap.size + 1, 5, none⟩ = some (.func (.func 33) #[] #[]) := by
        have T := HT.out
        have z := T.size
        exact ⟨fun o => (alloc_keep wr o (by simp; omega)).trans T.x0, fun o => (alloc_keep wr o (by simp; omega)).trans T.x1, fun o => (alloc_keep wr o (by simp; omega)).trans T.x2, T.f4, T.f5⟩
      go_wp2_with fail
      refine (R1.out _).mono ?_
      rintro e1 w1 ⟨rfl, hb1⟩
      obtain ⟨B1, z1, c0, c1⟩ := box2 hb1
      have T1 := Lib.hid (HT.out.keep B1)
      have B1' := hidTrans HB B1 (by have := HT.out.size; omega)
      clear hb1 HB HT B1 x0 x1 x2 y0 y1
      obtain ⟨x0, x1, x2, y1⟩ : (∀ o, (w1.alloc o).cell? ⟨w.heap.size, 0, none⟩ = some (.int .i64 l)) ∧ (∀ o, (w1.alloc o).cell? ⟨w.heap.size, 1, none⟩ = some (.int .i64 h)) ∧ (∀ o, (w1.alloc o).cell? ⟨w.heap.size, 2, none⟩ = some (.int .i64 s)) ∧ (∀ o, (w1.alloc o).cell? ⟨wr.heap.size, 1, none⟩ = some (.func (.func 33) #[] #[])) := by
        have T := T1.out
        have z := T.size
        exact ⟨fun o => (alloc_keep w1 o (by simp; omega)).trans T.x0, fun o => (alloc_keep w1 o (by simp; omega)).trans T.x1, fun o => (alloc_keep w1 o (by simp; omega)).trans T.x2, fun o => (alloc_keep w1 o (by simp; omega)).trans c1⟩
      clear c0 c1
      go_wp2_with fail
      refine (R2.out _).mono ?_
      rintro e2 w2 ⟨rfl, hb2⟩
      obtain ⟨B2, z2, d0, d1, d2⟩ := box3 hb2
      have T2 := Lib.hid (T1.out.keep B2.out)
      have B2' := hidTrans B1' B2.out (by have := T1.out.size; omega)
      clear hb2 T1 B1' B2 x0 x1 x2 y1
      obtain ⟨u0, u1, u2⟩ : (∀ o, (w2.alloc o).cell? ⟨w1.heap.size, 0, none⟩ = some (.int .i64 a)) ∧ (∀ o, (w2.alloc o).cell? ⟨w1.heap.size, 1, none⟩ = some (.int .i64 b)) ∧ (∀ o, (w2.alloc o).cell? ⟨w1.heap.size, 2, none⟩ = some (.int .i64 c)) :=
        ⟨fun o => (alloc_keep w2 o (by simp; omega)).trans d0, fun o => (alloc_keep w2 o (by simp; omega)).trans d1, fun o => (alloc_keep w2 o (by simp; omega)).trans d2⟩
      clear d0 d1 d2
      go_wp2
      go_roundw
      case rel => exact ⟨3, by omega, rfl, B2'.out.alloc (by have := T2.out.size; omega) _, T2.out.keep ((Below.refl _ _).alloc (Nat.le_refl _) _)⟩
      case measure => simp [intOf]
    · obtain ⟨a, b, c, e, r1, r2⟩ := pairExpand l h s n hl hh hs hn
      have R1 := Lib.hid r1
      have R2 := Lib.hid r2
      clear r1 r2
      have hq := neq_range_self a b c
      obtain ⟨x0, x1, x2, y0, y1⟩ : (∀ o, (wr.alloc o).cell? ⟨w.heap.size, 0, none⟩ = some (.int .i64 l)) ∧ (∀ o, (wr.alloc o).cell? ⟨w.heap.size, 1, none⟩ = some (.int .i64 h)) ∧ (∀ o, (wr.alloc o).cell? ⟨w.heap.size, 2, none⟩ = some (.int .i64 s)) ∧ wr.cell? ⟨w.heap.size + 1, 6, none⟩ = some (.func (.func 34) #[] #[]) ∧ wr.cell? ⟨w.heap.size + 1, 7, none⟩ = some (.func (.func 35) #[] #[]) := by
        have T := HT.out
        have z := T.size
        exact ⟨fun o => (alloc_keep wr o (by simp; omega)).trans T.x0, fun o => (alloc_keep wr o (by simp; omega)).trans T.x1, fun o => (alloc_keep wr o (by simp; omega)).trans T.x2, T.f6, T.f7⟩
      go_wp2_with fail
      refine (R1.out _).mono ?_
      rintro e1 w1 ⟨rfl, hb1⟩
      obtain ⟨B1, z1, c0, c1⟩ := box2 hb1
      have T1 := Lib.hid (HT.out.keep B1)
      have B1' := hidTrans HB B1 (by have := HT.out.size; omega)
      clear hb1 HB HT B1 x0 x1 x2 y0 y1
      obtain ⟨x0, x1, x2, y1⟩ : (∀ o, (w1.alloc o).cell? ⟨w.heap.size, 0, none⟩ = some (.int .i64 l)) ∧ (∀ o, (w1.alloc o).cell? ⟨w.heap.size, 1, none⟩ = some (.int .i64 h)) ∧ (∀ o, (w1.alloc o).cell? ⟨w.heap.size, 2, none⟩ = some (.int .i64 s)) ∧ (∀ o, (w1.alloc o).cell? ⟨wr.heap.size, 1, none⟩ = some (.func (.func 35) #[] #[])) := by
        have T := T1.out
        have z := T.size
        exact ⟨fun o => (alloc_keep w1 o (by simp; omega)).trans T.x0, fun o => (alloc_keep w1 o (by simp; omega)).trans T.x1, fun o => (alloc_keep w1 o (by simp; omega)).trans T.x2, fun o => (alloc_keep w1 o (by simp; omega)).trans c1⟩
      clear c0 c1
      go_wp2_with fail
      refine (R2.out _).mono ?_
      rintro e2 w2 ⟨rfl, hb2⟩
      obtain ⟨B2, z2, d0, d1, d2⟩ := box3 hb2
      have T2 := Lib.hid (T1.out.keep B2.out)
      have B2' := hidTrans B1' B2.out (by have := T1.out.size; omega)
      clear hb2 T1 B1' B2 x0 x1 x2 y1
      obtain ⟨u0, u1, u2⟩ : (∀ o, (w2.alloc o).cell? ⟨w1.heap.size, 0, none⟩ = some (.int .i64 a)) ∧ (∀ o, (w2.alloc o).cell? ⟨w1.heap.size, 1, none⟩ = some (.int .i64 b)) ∧ (∀ o, (w2.alloc o).cell? ⟨w1.heap.size, 2, none⟩ = some (.int .i64 c)) :=
        ⟨fun o => (alloc_keep w2 o (by simp; omega)).trans d0, fun o => (alloc_keep w2 o (by simp; omega)).trans d1, fun o => (alloc_keep w2 o (by simp; omega)).trans d2⟩
      clear d0 d1 d2
      go_wp2
      go_roundw
      case rel => exact ⟨4, by omega, rfl, B2'.out.alloc (by have := T2.out.size; omega) _, T2.out.keep ((Below.refl _ _).alloc (Nat.le_refl _) _)⟩
      case measure => simp [intOf]
    · obtain ⟨a, b, c, e, r1, r2⟩ := pairInterior l h s n hl hh hs hn
      have R1 := Lib.hid r1
      have R2 := Lib.hid r2
      clear r1 r2
      have hq := neq_range_self a b c
      obtain ⟨x0, x1, x2, y0, y1⟩ : (∀ o, (wr.alloc o).cell? ⟨w.heap.size, 0, none⟩ = some (.int .i64 l)) ∧ (∀ o, (wr.alloc o).cell? ⟨w.heap.size, 1, none⟩ = some (.int .i64 h)) ∧ (∀ o, (wr.alloc o).cell? ⟨w.heap.size, 2, none⟩ = some (.int .i64 s)) ∧ wr.cell? ⟨w.heap.size + 1, 8, none⟩ = some (.func (.func 36) #[] #[]) ∧ wr.cell? ⟨w.heap.size + 1, 9, none⟩ = some (.func (.func 37) #[] #[]) := by
        have T := HT.out
        have z := T.size
        exact ⟨fun o => (alloc_keep wr o (by simp; omega)).trans T.x0, fun o => (alloc_keep wr o (by simp; omega)).trans T.x1, fun o => (alloc_keep wr o (by simp; omega)).trans T.x2, T.f8, T.f9⟩
      go_wp2_with fail
      refine (R1.out _).mono ?_
      rintro e1 w1 ⟨rfl, hb1⟩
      obtain ⟨B1, z1, c0, c1⟩ := box2 hb1
      have T1 := Lib.hid (HT.out.keep B1)
      have B1' := hidTrans HB B1 (by have := HT.out.size; omega)
      clear hb1 HB HT B1 x0 x1 x2 y0 y1
      obtain ⟨x0, x1, x2, y1⟩ : (∀ o, (w1.alloc o).cell? ⟨w.heap.size, 0, none⟩ = some (.int .i64 l)) ∧ (∀ o, (w1.alloc o).cell? ⟨w.heap.size, 1, none⟩ = some (.int .i64 h)) ∧ (∀ o, (w1.alloc o).cell? ⟨w.heap.size, 2, none⟩ = some (.int .i64 s)) ∧ (∀ o, (w1.alloc o).cell? ⟨wr.heap.size, 1, none⟩ = some (.func (.func 37) #[] #[])) := by
        have T := T1.out
        have z := T.size
        exact ⟨fun o => (alloc_keep w1 o (by simp; omega)).trans T.x0, fun o => (alloc_keep w1 o (by simp; omega)).trans T.x1, fun o => (alloc_keep w1 o (by simp; omega)).trans T.x2, fun o => (alloc_keep w1 o (by simp; omega)).trans c1⟩
      clear c0 c1
      go_wp2_with fail
      refine (R2.out _).mono ?_
      rintro e2 w2 ⟨rfl, hb2⟩
      obtain ⟨B2, z2, d0, d1, d2⟩ := box3 hb2
      have T2 := Lib.hid (T1.out.keep B2.out)
      have B2' := hidTrans B1' B2.out (by have := T1.out.size; omega)
      clear hb2 T1 B1' B2 x0 x1 x2 y1
      obtain ⟨u0, u1, u2⟩ : (∀ o, (w2.alloc o).cell? ⟨w1.heap.size, 0, none⟩ = some (.int .i64 a)) ∧ (∀ o, (w2.alloc o).cell? ⟨w1.heap.size, 1, none⟩ = some (.int .i64 b)) ∧ (∀ o, (w2.alloc o).cell? ⟨w1.heap.size, 2, none⟩ = some (.int .i64 c)) :=
        ⟨fun o => (alloc_keep w2 o (by simp; omega)).trans d0, fun o => (alloc_keep w2 o (by simp; omega)).trans d1, fun o => (alloc_keep w2 o (by simp; omega)).trans d2⟩
      clear d0 d1 d2
      go_wp2
      go_roundw
      case rel => exact ⟨5, by omega, rfl, B2'.out.alloc (by have := T2.out.size; omega) _, T2.out.keep ((Below.refl _ _).alloc (Nat.le_refl _) _)⟩
      case measure => simp [intOf]
    · obtain ⟨a, b, c, e, r1, r2⟩ := pairExterior l h s n hl hh hs hn
      have R1 := Lib.hid r1
      have R2 := Lib.hid r2
      clear r1 r2
      have hq := neq_range_self a b c
      obtain ⟨x0, x1, x2, y0, y1⟩ : (∀ o, (wr.alloc o).cell? ⟨w.heap.size, 0, none⟩ = some (.int .i64 l)) ∧ (∀ o, (wr.alloc o).cell? ⟨w.heap.size, 1, none⟩ = some (.int .i64 h)) ∧ (∀ o, (wr.alloc o).cell? ⟨w.heap.size, 2, none⟩ = some (.int .i64 s)) ∧ wr.cell? ⟨w.heap.size + 1, 10, none⟩ = some (.func (.func 38) #[] #[]) ∧ wr.cell? ⟨w.heap.size + 1, 11, none⟩ = some (.func (.func 39) #[] #[]) := by
        have T := HT.out
        have z := T.size
        exact ⟨fun o => (alloc_keep wr o (by simp; omega)).trans T.x0, fun o => (alloc_keep wr o (by simp; omega)).trans T.x1, fun o => (alloc_keep wr o (by simp; omega)).trans T.x2, T.f10, T.f11⟩
      go_wp2_with fail
      refine (R1.out _).mono ?_
      rintro e1 w1 ⟨rfl, hb1⟩
      obtain ⟨B1, z1, c0, c1⟩ := box2 hb1
      have T1 := Lib.hid (HT.out.keep B1)
      have B1' := hidTrans HB B1 (by have := HT.out.size; omega)
      clear hb1 HB HT B1 x0 x1 x2 y0 y1
      obtain ⟨x0, x1, x2, y1⟩ : (∀ o, (w1.alloc o).cell? ⟨w.heap.size, 0, none⟩ = some (.int .i64 l)) ∧ (∀ o, (w1.alloc o).cell? ⟨w.heap.size, 1, none⟩ = some (.int .i64 h)) ∧ (∀ o, (w1.alloc o).cell? ⟨w.heap.size, 2, none⟩ = some (.int .i64 s)) ∧ (∀ o, (w1.alloc o).cell? ⟨wr.heap.size, 1, none⟩ = some (.func (.func 39) #[] #[])) := by
        have T := T1.out
        have z := T.size
        exact ⟨fun o => (alloc_keep w1 o (by simp; omega)).trans T.x0, fun o => (alloc_keep w1 o (by simp; omega)).trans T.x1, fun o => (alloc_keep w1 o (by simp; omega)).trans T.x2, fun o => (alloc_keep w1 o (by simp; omega)).trans c1⟩
      clear c0 c1
      go_wp2_with fail
      refine (R2.out _).mono ?_
      rintro e2 w2 ⟨rfl, hb2⟩
      obtain ⟨B2, z2, d0, d1, d2⟩ := box3 hb2
      have T2 := Lib.hid (T1.out.keep B2.out)
      have B2' := hidTrans B1' B2.out (by have := T1.out.size; omega)
      clear hb2 T1 B1' B2 x0 x1 x2 y1
      obtain ⟨u0, u1, u2⟩ : (∀ o, (w2.alloc o).cell? ⟨w1.heap.size, 0, none⟩ = some (.int .i64 a)) ∧ (∀ o, (w2.alloc o).cell? ⟨w1.heap.size, 1, none⟩ = some (.int .i64 b)) ∧ (∀ o, (w2.alloc o).cell? ⟨w1.heap.size, 2, none⟩ = some (.int .i64 c)) :=
        ⟨fun o => (alloc_keep w2 o (by simp; omega)).trans d0, fun o => (alloc_keep w2 o (by simp; omega)).trans d1, fun o => (alloc_keep w2 o (by simp; omega)).trans d2⟩
      clear d0 d1 d2
      go_wp2
      go_roundw
      case rel => exact ⟨6, by omega, rfl, B2'.out.alloc (by have := T2.out.size; omega) _, T2.out.keep ((Below.refl _ _).alloc (Nat.le_refl _) _)⟩
      case measure => simp [intOf]
    · have hb := HB.out
      go_wp2_with fail
      refine (awake_any _).mono ?_
      rintro e1 w1 ⟨rfl, hb1⟩
      have B1' := hidTrans HB hb1 (by have := HT.out.size; omega)
      clear hb1 hb HB HT
      go_wp2
      go_ret
      exact ⟨rfl, B1'.out⟩
end Go.Proofs.Ytkkinnjjanbmjaa
