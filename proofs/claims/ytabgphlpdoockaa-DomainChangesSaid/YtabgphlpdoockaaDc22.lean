/-
  Part 22: LawDc.
-/
import Derived.Test.YtabgphlpdoockaaDc14
import Derived.Test.YtabgphlpdoockaaDc17
import Derived.Test.YtabgphlpdoockaaDc21
import Derived.BigQuiet
import Derived.Deep.CutBlock
import Derived.Deep.DeepCutAuto
import Derived.Deep.DrawnRows
import Derived.Deep.LoopGhost
import Derived.Deep.QuietTactic
import Derived.Deep.RegionHeld3
import Derived.Deep.RegionWith
import Derived.Laws.EntriesVeiled
import Derived.Lib.Hide
import Derived.WalkKit
import Derived.WalkLawsBesides
import Derived.WalkSpells
namespace Go.Proofs.Ytabgphlpdoockaa
open Go.RowKit
/-- the law's own blocks: the domain, and the table of functions -/
structure CT (w : World) (v : Value) (k s h : Int) (wr : World) : Prop where
  below : Below w.heap.size w wr
  d : Blk w.heap.size v (.int .i64 k) (.int .i64 s) (.int .i64 h) wr
  size : w.heap.size + 1 < wr.heap.size
  f0 : wr.cell? ⟨w.heap.size + 1, 0, none⟩ = some (.func (.func 74) #[] #[])
  f1 : wr.cell? ⟨w.heap.size + 1, 1, none⟩ = some (.func (.func 75) #[] #[])
  f2 : wr.cell? ⟨w.heap.size + 1, 2, none⟩ = some (.func (.func 76) #[] #[])
  f3 : wr.cell? ⟨w.heap.size + 1, 3, none⟩ = some (.func (.func 77) #[] #[])
  f4 : wr.cell? ⟨w.heap.size + 1, 4, none⟩ = some (.func (.func 78) #[] #[])
  f5 : wr.cell? ⟨w.heap.size + 1, 5, none⟩ = some (.func (.func 79) #[] #[])
  f6 : wr.cell? ⟨w.heap.size + 1, 6, none⟩ = some (.func (.func 80) #[] #[])
  f7 : wr.cell? ⟨w.heap.size + 1, 7, none⟩ = some (.func (.func 81) #[] #[])
theorem CT.keep {w : World} {v : Value} {k s h : Int} {wa wb : World} (t : CT w v k s h wa) (hb : Below wa.heap.size wa wb) : CT w v k s h wb :=
  ⟨t.below.trans (hb.mono t.below.size), t.d.keep hb, Nat.lt_of_lt_of_le t.size hb.size, (hb.cell (p := ⟨w.heap.size + 1, 0, none⟩) t.size).trans t.f0, (hb.cell (p := ⟨w.heap.size + 1, 1, none⟩) t.size).trans t.f1, (hb.cell (p := ⟨w.heap.size + 1, 2, none⟩) t.size).trans t.f2, (hb.cell (p := ⟨w.heap.size + 1, 3, none⟩) t.size).trans t.f3, (hb.cell (p := ⟨w.heap.size + 1, 4, none⟩) t.size).trans t.f4, (hb.cell (p := ⟨w.heap.size + 1, 5, none⟩) t.size).trans t.f5, (hb.cell (p := ⟨w.heap.size + 1, 6, none⟩) t.size).trans t.f6, (hb.cell (p := ⟨w.heap.size + 1, 7, none⟩) t.size).trans t.f7⟩
structure FB (g : Nat) (a b : Value) (w : World) : Prop where
  size : g < w.heap.size
  c0 : w.cell? ⟨g, 0, none⟩ = some a
  c1 : w.cell? ⟨g, 1, none⟩ = some b
theorem FB.keep {g : Nat} {a b : Value} {w w1 : World} (t : FB g a b w) (hb : Below w.heap.size w w1) : FB g a b w1 :=
  ⟨Nat.lt_of_lt_of_le t.size hb.size, (hb.cell (p := ⟨g, 0, none⟩) t.size).trans t.c0, (hb.cell (p := ⟨g, 1, none⟩) t.size).trans t.c1⟩
theorem FB.new (a b : Value) (t : TypeId) (w : World) : FB w.heap.size a b (w.alloc (.cells #[a, b] t)) := by
  constructor <;> simp [go_sem]
set_option maxRecDepth 100000 in
set_option maxHeartbeats 6400000 in
theorem domainChanges_walk (v : Value) (L : List R3) (k s h : Int) (iv : Value) (ns : List Int) (w : World) (hr : Rd w v L) (hL : Ok3 L) (hri : Ri w iv ns) (hN : Ok1 ns) :
    Calls Try.prog 12 #[.agg #[v, .int .i64 k, .int .i64 s, .int .i64 h], iv] w fun e w' => e = .returned (.bool true) ∧ Below w.heap.size w w' := by
  have HL := Lib.hid hL
  have HN := Lib.hid hN
  have HR : Hid (Rd w v L) := Lib.hid hr
  have HI : Hid (Ri w iv ns) := Lib.hid hri
  obtain ⟨od, cd, rfl, _⟩ := hr
  obtain ⟨oi, ci, rfl, _⟩ := hri
  clear hL hN
  obtain ⟨gTranslate, pTranslate, qTranslate⟩ := mv_of (fun l h s n a b c d => pairTranslate l h s n a b c d)
  have PTranslate := Lib.hid pTranslate
  have QTranslate := Lib.hid qTranslate
  clear pTranslate qTranslate
  obtain ⟨gExpand, pExpand, qExpand⟩ := mv_of (fun l h s n a b c d => pairExpand l h s n a b c d)
  have PExpand := Lib.hid pExpand
  have QExpand := Lib.hid qExpand
  clear pExpand qExpand
  obtain ⟨gInterior, pInterior, qInterior⟩ := mv_of (fun l h s n a b c d => pairInterior l h s n a b c d)
  have PInterior := Lib.hid pInterior
  have QInterior := Lib.hid qInterior
  clear pInterior qInterior
  obtain ⟨gExterior, pExterior, qExterior⟩ := mv_of (fun l h s n a b c d => pairExterior l h s n a b c d)
  have PExterior := Lib.hid pExterior
  have QExterior := Lib.hid qExterior
  clear pExterior qExterior
  go_enter Try.func12, Try.ntmps12
  go_wp2_with fail
  go_loopg [6, 7, 8, 9, 10, 17] 5 (fun gh _ _ _ _ _ v17 wr => ∃ j : Nat, v17 = .int .i64 j ∧ (j ≤ 4 ∧ 4 - j < gh) ∧ Hid (CT w (.slice od L.length cd) k s h wr))
  case atStart =>
    refine ⟨0, rfl, ⟨by omega, by omega⟩, Lib.hid ?_⟩
    have nb := below_new w (.cells #[.slice od L.length cd, .int .i64 k, .int .i64 s, .int .i64 h] 62)
    have b0 := Blk.new (.slice od L.length cd) (.int .i64 k) (.int .i64 s) (.int .i64 h) 62 w
    refine ⟨((Below.refl _ _).alloc (Nat.le_refl _) _).alloc (by simp) _, b0.keep (below_new _ _), by simp, ?_, ?_, ?_, ?_, ?_, ?_, ?_, ?_⟩ <;> simp [go_sem]
  case round =>
    obtain ⟨j, rfl, ⟨j0, jg⟩, T⟩ := hrel
    have KG := Lib.hid jg
    clear jg
    have hj : j = 0 ∨ j = 1 ∨ j = 2 ∨ j = 3 ∨ j = 4 := by omega
    clear j0
    rcases hj with rfl | rfl | rfl | rfl | rfl
    · have y0 := T.out.f0
      have y1 := T.out.f1
      have d0 := fun o => ((below_new wr o).cell (p := ⟨w.heap.size, 0, none⟩) T.out.d.size).trans T.out.d.c0
      have d1 := fun o => ((below_new wr o).cell (p := ⟨w.heap.size, 1, none⟩) T.out.d.size).trans T.out.d.c1
      have d2 := fun o => ((below_new wr o).cell (p := ⟨w.heap.size, 2, none⟩) T.out.d.size).trans T.out.d.c2
      have d3 := fun o => ((below_new wr o).cell (p := ⟨w.heap.size, 3, none⟩) T.out.d.size).trans T.out.d.c3
      go_wp2_with fail
      refine (DTranslate_any gTranslate PTranslate _ L k s h _ ns _ ((HR.out.keep T.out.below).keep (below_new _ _)) HL.out ((HI.out.keep T.out.below).keep (below_new _ _)) HN.out).mono ?_
      rintro e w1 ⟨rv, kk, ss, hh, er, rfl, hb, _, hE⟩
      have nb := below_new wr (.cells #[.func (.func 74) #[] #[], .func (.func 75) #[] #[]] 74)
      have G := Lib.hid (FB.new (.func (.func 74) #[] #[]) (.func (.func 75) #[] #[]) 74 wr)
      have T1 := Lib.hid (T.out.keep nb)
      clear nb T y0 y1 d0 d1 d2 d3
      obtain ⟨X, IX, rx⟩ := mv_rd hE
      obtain ⟨ox, cx, rfl, qx⟩ := rx
      have Rx : Hid (Rd w1 (.slice ox X.length cx) X) := Lib.hid ⟨ox, cx, rfl, qx⟩
      have T2 := Lib.hid (T1.out.keep hb)
      have G2 := Lib.hid (G.out.keep hb)
      clear hb hE qx T1 G
      go_upto_region 5 with fail
      have nb := below_new w1 (.cells #[.slice ox X.length cx, .int .i64 kk, .int .i64 ss, .int .i64 hh] 62)
      have Kx := Lib.hid (Blk.new (.slice ox X.length cx) (.int .i64 kk) (.int .i64 ss) (.int .i64 hh) 62 w1)
      have T3 := Lib.hid (T2.out.keep nb)
      have G3 := Lib.hid (G2.out.keep nb)
      have Rx3 := Lib.hid (Rx.out.keep nb)
      clear nb T2 G2 Rx
      generalize w1.alloc (.cells #[.slice ox X.length cx, .int .i64 kk, .int .i64 ss, .int .i64 hh] 62) = w2 at *
      generalize w1.heap.size = gx at *
      have d0 := T3.out.d.c0
      have d1 := T3.out.d.c1
      have d2 := T3.out.d.c2
      have d3 := T3.out.d.c3
      have g1 := G3.out.c1
      go_wp2_with fail
      refine (rDTranslate_any gTranslate QTranslate _ L k s h _ ns _ (HR.out.keep T3.out.below) HL.out (HI.out.keep T3.out.below) HN.out).mono ?_
      rintro e w3 ⟨rv2, kk2, ss2, hh2, er2, rfl, hb, _, hE⟩
      obtain ⟨X2, IX2, ry⟩ := mv_rd hE
      obtain ⟨rfl, rfl, rfl, rfl, rfl⟩ := mvP_uniq IX.out IX2.out
      obtain ⟨oy, cy, rfl, qy⟩ := ry
      have Ry : Hid (Rd w3 (.slice oy X2.length cy) X2) := Lib.hid ⟨oy, cy, rfl, qy⟩
      have T4 := Lib.hid (T3.out.keep hb)
      have Kx4 := Lib.hid (Kx.out.keep hb)
      have Rx4 := Lib.hid (Rx3.out.keep hb)
      clear hb hE qy T3 G3 Kx Rx3 IX d0 d1 d2 d3 g1
      go_upto_region 6 with fail
      have nb := below_new w3 (.cells #[.slice oy X2.length cy, .int .i64 kk2, .int .i64 ss2, .int .i64 hh2] 62)
      have Ky := Lib.hid (Blk.new (.slice oy X2.length cy) (.int .i64 kk2) (.int .i64 ss2) (.int .i64 hh2) 62 w3)
      have T5 := Lib.hid (T4.out.keep nb)
      have Kx5 := Lib.hid (Kx4.out.keep nb)
      have Rx5 := Lib.hid (Rx4.out.keep nb)
      have Ry5 := Lib.hid (Ry.out.keep nb)
      clear nb T4 Kx4 Rx4 Ry
      generalize w3.alloc (.cells #[.slice oy X2.length cy, .int .i64 kk2, .int .i64 ss2, .int .i64 hh2] 62) = w4 at *
      generalize w3.heap.size = gy at *
      have z0 := Kx5.out.c0
      have u0 := Ky.out.c0
      have z1 := Kx5.out.c1
      have u1 := Ky.out.c1
      have z2 := Kx5.out.c2
      have u2 := Ky.out.c2
      have z3 := Kx5.out.c3
      have u3 := Ky.out.c3
      go_wp2_with fail
      refine (Dequal_same _ _ X2 kk2 ss2 hh2 _ Rx5.out Ry5.out (by have := mvP_len IX2.out; omega)).mono ?_
      rintro e w5 ⟨rfl, hb⟩
      have T6 := Lib.hid (T5.out.keep hb)
      clear hb T5 Kx5 Ky Rx5 Ry5 z0 u0 z1 u1 z2 u2 z3 u3
      go_wp2_with fail
      go_roundg (4)
      case measure => exact KG.out
      case rel => exact ⟨1, rfl, ⟨by omega, by omega⟩, T6⟩
    · have y0 := T.out.f2
      have y1 := T.out.f3
      have d0 := fun o => ((below_new wr o).cell (p := ⟨w.heap.size, 0, none⟩) T.out.d.size).trans T.out.d.c0
      have d1 := fun o => ((below_new wr o).cell (p := ⟨w.heap.size, 1, none⟩) T.out.d.size).trans T.out.d.c1
      have d2 := fun o => ((below_new wr o).cell (p := ⟨w.heap.size, 2, none⟩) T.out.d.size).trans T.out.d.c2
      have d3 := fun o => ((below_new wr o).cell (p := ⟨w.heap.size, 3, none⟩) T.out.d.size).trans T.out.d.c3
      go_wp2_with fail
      refine (DExpand_any gExpand PExpand _ L k s h _ ns _ ((HR.out.keep T.out.below).keep (below_new _ _)) HL.out ((HI.out.keep T.out.below).keep (below_new _ _)) HN.out).mono ?_
      rintro e w1 ⟨rv, kk, ss, hh, er, rfl, hb, _, hE⟩
      have nb := below_new wr (.cells #[.func (.func 76) #[] #[], .func (.func 77) #[] #[]] 74)
      have G := Lib.hid (FB.new (.func (.func 76) #[] #[]) (.func (.func 77) #[] #[]) 74 wr)
      have T1 := Lib.hid (T.out.keep nb)
      clear nb T y0 y1 d0 d1 d2 d3
      obtain ⟨X, IX, rx⟩ := mv_rd hE
      obtain ⟨ox, cx, rfl, qx⟩ := rx
      have Rx : Hid (Rd w1 (.slice ox X.length cx) X) := Lib.hid ⟨ox, cx, rfl, qx⟩
      have T2 := Lib.hid (T1.out.keep hb)
      have G2 := Lib.hid (G.out.keep hb)
      clear hb hE qx T1 G
      go_upto_region 5 with fail
      have nb := below_new w1 (.cells #[.slice ox X.length cx, .int .i64 kk, .int .i64 ss, .int .i64 hh] 62)
      have Kx := Lib.hid (Blk.new (.slice ox X.length cx) (.int .i64 kk) (.int .i64 ss) (.int .i64 hh) 62 w1)
      have T3 := Lib.hid (T2.out.keep nb)
      have G3 := Lib.hid (G2.out.keep nb)
      have Rx3 := Lib.hid (Rx.out.keep nb)
      clear nb T2 G2 Rx
      generalize w1.alloc (.cells #[.slice ox X.length cx, .int .i64 kk, .int .i64 ss, .int .i64 hh] 62) = w2 at *
      generalize w1.heap.size = gx at *
      have d0 := T3.out.d.c0
      have d1 := T3.out.d.c1
      have d2 := T3.out.d.c2
      have d3 := T3.out.d.c3
      have g1 := G3.out.c1
      go_wp2_with fail
      refine (rDExpand_any gExpand QExpand _ L k s h _ ns _ (HR.out.keep T3.out.below) HL.out (HI.out.keep T3.out.below) HN.out).mono ?_
      rintro e w3 ⟨rv2, kk2, ss2, hh2, er2, rfl, hb, _, hE⟩
      obtain ⟨X2, IX2, ry⟩ := mv_rd hE
      obtain ⟨rfl, rfl, rfl, rfl, rfl⟩ := mvP_uniq IX.out IX2.out
      obtain ⟨oy, cy, rfl, qy⟩ := ry
      have Ry : Hid (Rd w3 (.slice oy X2.length cy) X2) := Lib.hid ⟨oy, cy, rfl, qy⟩
      have T4 := Lib.hid (T3.out.keep hb)
      have Kx4 := Lib.hid (Kx.out.keep hb)
      have Rx4 := Lib.hid (Rx3.out.keep hb)
      clear hb hE qy T3 G3 Kx Rx3 IX d0 d1 d2 d3 g1
      go_upto_region 6 with fail
      have nb := below_new w3 (.cells #[.slice oy X2.length cy, .int .i64 kk2, .int .i64 ss2, .int .i64 hh2] 62)
      have Ky := Lib.hid (Blk.new (.slice oy X2.length cy) (.int .i64 kk2) (.int .i64 ss2) (.int .i64 hh2) 62 w3)
      have T5 := Lib.hid (T4.out.keep nb)
      have Kx5 := Lib.hid (Kx4.out.keep nb)
      have Rx5 := Lib.hid (Rx4.out.keep nb)
      have Ry5 := Lib.hid (Ry.out.keep nb)
      clear nb T4 Kx4 Rx4 Ry
      generalize w3.alloc (.cells #[.slice oy X2.length cy, .int .i64 kk2, .int .i64 ss2, .int .i64 hh2] 62) = w4 at *
      generalize w3.heap.size = gy at *
      have z0 := Kx5.out.c0
      have u0 := Ky.out.c0
      have z1 := Kx5.out.c1
      have u1 := Ky.out.c1
      have z2 := Kx5.out.c2
      have u2 := Ky.out.c2
      have z3 := Kx5.out.c3
      have u3 := Ky.out.c3
      go_wp2_with fail
      refine (Dequal_same _ _ X2 kk2 ss2 hh2 _ Rx5.out Ry5.out (by have := mvP_len IX2.out; omega)).mono ?_
      rintro e w5 ⟨rfl, hb⟩
      have T6 := Lib.hid (T5.out.keep hb)
      clear hb T5 Kx5 Ky Rx5 Ry5 z0 u0 z1 u1 z2 u2 z3 u3
      go_wp2_with fail
      go_roundg (3)
      case measure => exact KG.out
      case rel => exact ⟨2, rfl, ⟨by omega, by omega⟩, T6⟩
    · have y0 := T.out.f4
      have y1 := T.out.f5
      have d0 := fun o => ((below_new wr o).cell (p := ⟨w.heap.size, 0, none⟩) T.out.d.size).trans T.out.d.c0
      have d1 := fun o => ((below_new wr o).cell (p := ⟨w.heap.size, 1, none⟩) T.out.d.size).trans T.out.d.c1
      have d2 := fun o => ((below_new wr o).cell (p := ⟨w.heap.size, 2, none⟩) T.out.d.size).trans T.out.d.c2
      have d3 := fun o => ((below_new wr o).cell (p := ⟨w.heap.size, 3, none⟩) T.out.d.size).trans T.out.d.c3
      go_wp2_with fail
      refine (DInterior_any gInterior PInterior _ L k s h _ ns _ ((HR.out.keep T.out.below).keep (below_new _ _)) HL.out ((HI.out.keep T.out.below).keep (below_new _ _)) HN.out).mono ?_
      rintro e w1 ⟨rv, kk, ss, hh, er, rfl, hb, _, hE⟩
      have nb := below_new wr (.cells #[.func (.func 78) #[] #[], .func (.func 79) #[] #[]] 74)
      have G := Lib.hid (FB.new (.func (.func 78) #[] #[]) (.func (.func 79) #[] #[]) 74 wr)
      have T1 := Lib.hid (T.out.keep nb)
      clear nb T y0 y1 d0 d1 d2 d3
      obtain ⟨X, IX, rx⟩ := mv_rd hE
      obtain ⟨ox, cx, rfl, qx⟩ := rx
      have Rx : Hid (Rd w1 (.slice ox X.length cx) X) := Lib.hid ⟨ox, cx, rfl, qx⟩
      have T2 := Lib.hid (T1.out.keep hb)
      have G2 := Lib.hid (G.out.keep hb)
      clear hb hE qx T1 G
      go_upto_region 5 with fail
      have nb := below_new w1 (.cells #[.slice ox X.length cx, .int .i64 kk, .int .i64 ss, .int .i64 hh] 62)
      have Kx := Lib.hid (Blk.new (.slice ox X.length cx) (.int .i64 kk) (.int .i64 ss) (.int .i64 hh) 62 w1)
      have T3 := Lib.hid (T2.out.keep nb)
      have G3 := Lib.hid (G2.out.keep nb)
      have Rx3 := Lib.hid (Rx.out.keep nb)
      clear nb T2 G2 Rx
      generalize w1.alloc (.cells #[.slice ox X.length cx, .int .i64 kk, .int .i64 ss, .int .i64 hh] 62) = w2 at *
      generalize w1.heap.size = gx at *
      have d0 := T3.out.d.c0
      have d1 := T3.out.d.c1
      have d2 := T3.out.d.c2
      have d3 := T3.out.d.c3
      have g1 := G3.out.c1
      go_wp2_with fail
      refine (rDInterior_any gInterior QInterior _ L k s h _ ns _ (HR.out.keep T3.out.below) HL.out (HI.out.keep T3.out.below) HN.out).mono ?_
      rintro e w3 ⟨rv2, kk2, ss2, hh2, er2, rfl, hb, _, hE⟩
      obtain ⟨X2, IX2, ry⟩ := mv_rd hE
      obtain ⟨rfl, rfl, rfl, rfl, rfl⟩ := mvP_uniq IX.out IX2.out
      obtain ⟨oy, cy, rfl, qy⟩ := ry
      have Ry : Hid (Rd w3 (.slice oy X2.length cy) X2) := Lib.hid ⟨oy, cy, rfl, qy⟩
      have T4 := Lib.hid (T3.out.keep hb)
      have Kx4 := Lib.hid (Kx.out.keep hb)
      have Rx4 := Lib.hid (Rx3.out.keep hb)
      clear hb hE qy T3 G3 Kx Rx3 IX d0 d1 d2 d3 g1
      go_upto_region 6 with fail
      have nb := below_new w3 (.cells #[.slice oy X2.length cy, .int .i64 kk2, .int .i64 ss2, .int .i64 hh2] 62)
      have Ky := Lib.hid (Blk.new (.slice oy X2.length cy) (.int .i64 kk2) (.int .i64 ss2) (.int .i64 hh2) 62 w3)
      have T5 := Lib.hid (T4.out.keep nb)
      have Kx5 := Lib.hid (Kx4.out.keep nb)
      have Rx5 := Lib.hid (Rx4.out.keep nb)
      have Ry5 := Lib.hid (Ry.out.keep nb)
      clear nb T4 Kx4 Rx4 Ry
      generalize w3.alloc (.cells #[.slice oy X2.length cy, .int .i64 kk2, .int .i64 ss2, .int .i64 hh2] 62) = w4 at *
      generalize w3.heap.size = gy at *
      have z0 := Kx5.out.c0
      have u0 := Ky.out.c0
      have z1 := Kx5.out.c1
      have u1 := Ky.out.c1
      have z2 := Kx5.out.c2
      have u2 := Ky.out.c2
      have z3 := Kx5.out.c3
      have u3 := Ky.out.c3
      go_wp2_with fail
      refine (Dequal_same _ _ X2 kk2 ss2 hh2 _ Rx5.out Ry5.out (by have := mvP_len IX2.out; omega)).mono ?_
      rintro e w5 ⟨rfl, hb⟩
      have T6 := Lib.hid (T5.out.keep hb)
      clear hb T5 Kx5 Ky Rx5 Ry5 z0 u0 z1 u1 z2 u2 z3 u3
      go_wp2_with fail
      go_roundg (2)
      case measure => exact KG.out
      case rel => exact ⟨3, rfl, ⟨by omega, by omega⟩, T6⟩
    · have y0 := T.out.f6
      have y1 := T.out.f7
      have d0 := fun o => ((below_new wr o).cell (p := ⟨w.heap.size, 0, none⟩) T.out.d.size).trans T.out.d.c0
      have d1 := fun o => ((below_new wr o).cell (p := ⟨w.heap.size, 1, none⟩) T.out.d.size).trans T.out.d.c1
      have d2 := fun o => ((below_new wr o).cell (p := ⟨w.heap.size, 2, none⟩) T.out.d.size).trans T.out.d.c2
      have d3 := fun o => ((below_new wr o).cell (p := ⟨w.heap.size, 3, none⟩) T.out.d.size).trans T.out.d.c3
      go_wp2_with fail
      refine (DExterior_any gExterior PExterior _ L k s h _ ns _ ((HR.out.keep T.out.below).keep (below_new _ _)) HL.out ((HI.out.keep T.out.below).keep (below_new _ _)) HN.out).mono ?_
      rintro e w1 ⟨rv, kk, ss, hh, er, rfl, hb, _, hE⟩
      have nb := below_new wr (.cells #[.func (.func 80) #[] #[], .func (.func 81) #[] #[]] 74)
      have G := Lib.hid (FB.new (.func (.func 80) #[] #[]) (.func (.func 81) #[] #[]) 74 wr)
      have T1 := Lib.hid (T.out.keep nb)
      clear nb T y0 y1 d0 d1 d2 d3
      obtain ⟨X, IX, rx⟩ := mv_rd hE
      obtain ⟨ox, cx, rfl, qx⟩ := rx
      have Rx : Hid (Rd w1 (.slice ox X.length cx) X) := Lib.hid ⟨ox, cx, rfl, qx⟩
      have T2 := Lib.hid (T1.out.keep hb)
      have G2 := Lib.hid (G.out.keep hb)
      clear hb hE qx T1 G
      go_upto_region 5 with fail
      have nb := below_new w1 (.cells #[.slice ox X.length cx, .int .i64 kk, .int .i64 ss, .int .i64 hh] 62)
      have Kx := Lib.hid (Blk.new (.slice ox X.length cx) (.int .i64 kk) (.int .i64 ss) (.int .i64 hh) 62 w1)
      have T3 := Lib.hid (T2.out.keep nb)
      have G3 := Lib.hid (G2.out.keep nb)
      have Rx3 := Lib.hid (Rx.out.keep nb)
      clear nb T2 G2 Rx
      generalize w1.alloc (.cells #[.slice ox X.length cx, .int .i64 kk, .int .i64 ss, .int .i64 hh] 62) = w2 at *
      generalize w1.heap.size = gx at *
      have d0 := T3.out.d.c0
      have d1 := T3.out.d.c1
      have d2 := T3.out.d.c2
      have d3 := T3.out.d.c3
      have g1 := G3.out.c1
      go_wp2_with fail
      refine (rDExterior_any gExterior QExterior _ L k s h _ ns _ (HR.out.keep T3.out.below) HL.out (HI.out.keep T3.out.below) HN.out).mono ?_
      rintro e w3 ⟨rv2, kk2, ss2, hh2, er2, rfl, hb, _, hE⟩
      obtain ⟨X2, IX2, ry⟩ := mv_rd hE
      obtain ⟨rfl, rfl, rfl, rfl, rfl⟩ := mvP_uniq IX.out IX2.out
      obtain ⟨oy, cy, rfl, qy⟩ := ry
      have Ry : Hid (Rd w3 (.slice oy X2.length cy) X2) := Lib.hid ⟨oy, cy, rfl, qy⟩
      have T4 := Lib.hid (T3.out.keep hb)
      have Kx4 := Lib.hid (Kx.out.keep hb)
      have Rx4 := Lib.hid (Rx3.out.keep hb)
      clear hb hE qy T3 G3 Kx Rx3 IX d0 d1 d2 d3 g1
      go_upto_region 6 with fail
      have nb := below_new w3 (.cells #[.slice oy X2.length cy, .int .i64 kk2, .int .i64 ss2, .int .i64 hh2] 62)
      have Ky := Lib.hid (Blk.new (.slice oy X2.length cy) (.int .i64 kk2) (.int .i64 ss2) (.int .i64 hh2) 62 w3)
      have T5 := Lib.hid (T4.out.keep nb)
      have Kx5 := Lib.hid (Kx4.out.keep nb)
      have Rx5 := Lib.hid (Rx4.out.keep nb)
      have Ry5 := Lib.hid (Ry.out.keep nb)
      clear nb T4 Kx4 Rx4 Ry
      generalize w3.alloc (.cells #[.slice oy X2.length cy, .int .i64 kk2, .int .i64 ss2, .int .i64 hh2] 62) = w4 at *
      generalize w3.heap.size = gy at *
      have z0 := Kx5.out.c0
      have u0 := Ky.out.c0
      have z1 := Kx5.out.c1
      have u1 := Ky.out.c1
      have z2 := Kx5.out.c2
      have u2 := Ky.out.c2
      have z3 := Kx5.out.c3
      have u3 := Ky.out.c3
      go_wp2_with fail
      refine (Dequal_same _ _ X2 kk2 ss2 hh2 _ Rx5.out Ry5.out (by have := mvP_len IX2.out; omega)).mono ?_
      rintro e w5 ⟨rfl, hb⟩
      have T6 := Lib.hid (T5.out.keep hb)
      clear hb T5 Kx5 Ky Rx5 Ry5 z0 u0 z1 u1 z2 u2 z3 u3
      go_wp2_with fail
      go_roundg (1)
      case measure => exact KG.out
      case rel => exact ⟨4, rfl, ⟨by omega, by omega⟩, T6⟩
    · go_wp2_with fail
      refine (awake2_any _).mono ?_
      rintro e w1 ⟨rfl, hb⟩
      have B := Lib.hid (T.out.below.trans (hb.mono T.out.below.size))
      clear hb T
      go_wp2
      exact bodyPost_ret (v := .bool true) (by simp [results, Try.results12, go_sem, *]) rfl ⟨rfl, B.out⟩
end Go.Proofs.Ytabgphlpdoockaa
