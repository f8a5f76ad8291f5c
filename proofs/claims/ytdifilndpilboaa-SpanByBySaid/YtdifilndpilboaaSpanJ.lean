/-
  The contract of span.moved for the closures of Translate and Expand, and where no closure is called.
-/
import Derived.Test.YtdifilndpilboaaSpanG
import Derived.WalkKit
import Derived.WalkSpells
import Derived.WalkLawsBesides
import Derived.Lib.Hide
namespace Go.Proofs.Ytdifilndpilboaa
open Go.RowKit

theorem check_four (l h s : Int) (w : World) (hl : I64 l) (hh : I64 h) (hs : I64 s) (hk : Hid (chk l h s = 4)) :
    Calls Try.prog 21 #[.agg #[.int .i64 l, .int .i64 h, .int .i64 s]] w fun e w' => e = .returned (.int .i64 4) ∧ Below w.heap.size w w' :=
  (check64 l h s w hl hh hs).mono fun _ _ ⟨he, hb⟩ => ⟨by rw [he, hk.out], hb⟩

set_option maxRecDepth 100000 in
set_option maxHeartbeats 800000 in
theorem movedChk (fv : FuncId) (caps : Array Value) (l h s : Int) (w : World) (hl : I64 l) (hh : I64 h) (hs : I64 s) (hk : ¬ chk l h s = 0) :
    Calls Try.prog 108 #[.agg #[.int .i64 l, .int .i64 h, .int .i64 s], .func (.func fv) #[] caps] w fun e w' => e = .returned (.tuple #[.agg #[.int .i64 0, .int .i64 0, .int .i64 0], .int .i64 (chk l h s)]) ∧ Below w.heap.size w w' := by
  have hn : (chk l h s != 0) = true := by simp [hk]
  clear hk
  go_enter Try.func108, Try.ntmps108
  go_wp2_with fail
  refine (check64 l h s _ hl hh hs).mono ?_
  rintro e w1 ⟨rfl, hb1⟩
  obtain ⟨W1, z1, ⟨x0, x1, x2⟩, ⟨y0, y1, y2⟩, f0, f1, f2⟩ := res2 hb1
  clear hb1
  go_wp2
  refine bodyPost_ret (v := .tuple #[.agg #[.int .i64 0, .int .i64 0, .int .i64 0], .int .i64 (chk l h s)]) (by simp [results, Try.results108, go_sem, *]) rfl ⟨rfl, ?_⟩
  repeat (first | exact W1.out | refine Below.setCell ?_ (by simp; try omega) _)

set_option maxRecDepth 100000 in
set_option maxHeartbeats 800000 in
theorem movedEmpty (fv : FuncId) (caps : Array Value) (w : World) :
    Calls Try.prog 108 #[.agg #[.int .i64 1, .int .i64 0, .int .i64 1], .func (.func fv) #[] caps] w fun e w' => e = .returned (.tuple #[.agg #[.int .i64 1, .int .i64 0, .int .i64 1], .int .i64 0]) ∧ Below w.heap.size w w' := by
  go_enter Try.func108, Try.ntmps108
  go_wp2_with fail
  refine (check_ok 1 0 1 _ ⟨by omega, by omega⟩ ⟨by omega, by omega⟩ ⟨by omega, by omega⟩ (Lib.hid (show chk 1 0 1 = 0 by decide))).mono ?_
  rintro e w1 ⟨rfl, hb1⟩
  obtain ⟨W1, z1, ⟨x0, x1, x2⟩, Y, F⟩ := res2 hb1
  have Y1 := Lib.hid Y
  have F1 := Lib.hid F
  clear hb1 Y F
  go_wp2_with fail
  refine (Size_empty _).mono ?_
  rintro e w2 ⟨rfl, hb2⟩
  have W2 := hidTrans W1 hb2 (by omega)
  obtain ⟨z2, y0, y1, y2⟩ := keep3 hb2 (show w.heap.size < w1.heap.size by omega) x0 x1 x2
  obtain ⟨⟨g0, g1, g2⟩, f0, f1, f2⟩ := keepF hb2 z1 Y1.out F1.out
  clear hb2 W1 x0 x1 x2
  go_wp2
  refine bodyPost_ret (v := .tuple #[.agg #[.int .i64 1, .int .i64 0, .int .i64 1], .int .i64 0]) (by simp [results, Try.results108, go_sem, *]) rfl ⟨rfl, ?_⟩
  repeat (first | exact W2.out | refine Below.setCell ?_ (by simp; try omega) _)

set_option maxHeartbeats 800000 in
theorem moved_Translate (b o : Nat) (vn : Value) (l h s l' h' st' : Int) (dn' : Bool) (w : World) (hk : Hid (chk l h s = 0)) (hle : l ≤ h) (hc : w.cell? ⟨b, o, none⟩ = some vn)
    (hm : Moves 111 ⟨b, o, none⟩ vn l h (magA s) (decide (s < 0)) l' h' st' dn') (hl' : I64 l') (hh' : I64 h') (s1 : -4000000000000 ≤ st') (s2 : st' ≤ 4000000000000) (hr : Hid (chk (nL l' h') (nH l' h') (nS l' h' st' dn') = 0)) :
    Calls Try.prog 108 #[.agg #[.int .i64 l, .int .i64 h, .int .i64 s], .func (.func 111) #[] #[.pointer (some ⟨b, o, none⟩)]] w fun e w' => e = .returned (.tuple #[.agg #[.int .i64 (nL l' h'), .int .i64 (nH l' h'), .int .i64 (nS l' h' st' dn')], .int .i64 0]) ∧ Below w.heap.size w w' := by
  obtain ⟨b1, b2, b3, b4, b5, b6, b7, b8⟩ := chk_bounds hk.out
  have q := quo_bd (h - l) (magA s) (by omega) b7
  have hz : ((h - l) / magA s + 1 == 0) = false := by simp; omega
  have hlt : b < w.heap.size := World.block_lt_of_cell? w _ hc
  have HC := Lib.hid hc
  clear hc q
  go_enter Try.func108, Try.ntmps108
  go_wp2_with fail
  refine (check_ok l h s _ ⟨by omega, by omega⟩ ⟨by omega, by omega⟩ ⟨by omega, by omega⟩ hk).mono ?_
  rintro e w1 ⟨rfl, hb1⟩
  obtain ⟨W1, z1, ⟨x0, x1, x2⟩, Y, F⟩ := res2 hb1
  have Y1 := Lib.hid Y
  have F1 := Lib.hid F
  clear hb1 Y F
  go_wp2_with fail
  refine (size_ok l h s _ hk hle).mono ?_
  rintro e w2 ⟨rfl, hb2⟩
  have W2 := hidTrans W1 hb2 (by omega)
  obtain ⟨z2, y0, y1, y2⟩ := keep3 hb2 (show w.heap.size < w1.heap.size by omega) x0 x1 x2
  have G2 := Lib.hid (keepF hb2 z1 Y1.out F1.out)
  have z2' := hb2.size
  clear hb2 W1 x0 x1 x2
  go_wp2_with fail
  refine (open_any _ _ _ _ (by omega) (by omega)).mono ?_
  rintro e w3 ⟨rfl, hb3⟩
  have W3 := hidTrans W2 hb3 (by omega)
  have G3 := Lib.hid (keepF hb3 (by omega) G2.out.1 G2.out.2)
  have z3 := hb3.size
  clear hb3 W2 y0 y1 y2
  go_wp2_with fail
  refine (hm _ ((W3.out.cell (p := ⟨b, o, none⟩) hlt).trans HC.out)).mono ?_
  rintro e w4 ⟨rfl, hb4⟩
  have W4 := hidTrans W3 hb4 (by omega)
  have G4 := Lib.hid (keepF hb4 (by omega) G3.out.1 G3.out.2)
  have z4 := hb4.size
  clear hb4 W3
  go_wp2_with fail
  refine (normal_any _ _ _ _ _ s1 s2).mono ?_
  rintro e w5 ⟨rfl, hb5⟩
  have W5 := hidTrans W4 hb5 (by omega)
  have G5 := Lib.hid (keepF hb5 (by omega) G4.out.1 G4.out.2)
  have z5 := hb5.size
  clear hb5 W4
  go_wp2_with fail
  refine (check_ok _ _ _ _ (nL_64 l' h' hl') (nH_64 l' h' hh') (nS_64 l' h' st' dn' s1 s2) hr).mono ?_
  rintro e w6 ⟨rfl, hb6⟩
  obtain ⟨V6, z6, y0, y1, y2⟩ := box3 hb6
  have W6 := hidTrans W5 V6.out (by omega)
  have G6 := keepF V6.out (by omega) G5.out.1 G5.out.2
  obtain ⟨⟨g0, g1, g2⟩, f0, f1, f2⟩ := G6
  clear hb6 W5 V6
  go_wp2
  refine bodyPost_ret (v := .tuple #[.agg #[.int .i64 (nL l' h'), .int .i64 (nH l' h'), .int .i64 (nS l' h' st' dn')], .int .i64 0]) (by simp [results, Try.results108, go_sem, *]) rfl ⟨rfl, ?_⟩
  repeat (first | exact W6.out | refine Below.setCell ?_ (by simp; try omega) _)
set_option maxHeartbeats 800000 in
theorem movedBad_Translate (b o : Nat) (vn : Value) (l h s l' h' st' : Int) (dn' : Bool) (w : World) (hk : Hid (chk l h s = 0)) (hle : l ≤ h) (hc : w.cell? ⟨b, o, none⟩ = some vn)
    (hm : Moves 111 ⟨b, o, none⟩ vn l h (magA s) (decide (s < 0)) l' h' st' dn') (hl' : I64 l') (hh' : I64 h') (s1 : -4000000000000 ≤ st') (s2 : st' ≤ 4000000000000) (hr : Hid (chk (nL l' h') (nH l' h') (nS l' h' st' dn') = 4)) :
    Calls Try.prog 108 #[.agg #[.int .i64 l, .int .i64 h, .int .i64 s], .func (.func 111) #[] #[.pointer (some ⟨b, o, none⟩)]] w fun e w' => e = .returned (.tuple #[.agg #[.int .i64 0, .int .i64 0, .int .i64 0], .int .i64 4]) ∧ Below w.heap.size w w' := by
  obtain ⟨b1, b2, b3, b4, b5, b6, b7, b8⟩ := chk_bounds hk.out
  have q := quo_bd (h - l) (magA s) (by omega) b7
  have hz : ((h - l) / magA s + 1 == 0) = false := by simp; omega
  have hlt : b < w.heap.size := World.block_lt_of_cell? w _ hc
  have HC := Lib.hid hc
  clear hc q
  go_enter Try.func108, Try.ntmps108
  go_wp2_with fail
  refine (check_ok l h s _ ⟨by omega, by omega⟩ ⟨by omega, by omega⟩ ⟨by omega, by omega⟩ hk).mono ?_
  rintro e w1 ⟨rfl, hb1⟩
  obtain ⟨W1, z1, ⟨x0, x1, x2⟩, Y, F⟩ := res2 hb1
  have Y1 := Lib.hid Y
  have F1 := Lib.hid F
  clear hb1 Y F
  go_wp2_with fail
  refine (size_ok l h s _ hk hle).mono ?_
  rintro e w2 ⟨rfl, hb2⟩
  have W2 := hidTrans W1 hb2 (by omega)
  obtain ⟨z2, y0, y1, y2⟩ := keep3 hb2 (show w.heap.size < w1.heap.size by omega) x0 x1 x2
  have G2 := Lib.hid (keepF hb2 z1 Y1.out F1.out)
  have z2' := hb2.size
  clear hb2 W1 x0 x1 x2
  go_wp2_with fail
  refine (open_any _ _ _ _ (by omega) (by omega)).mono ?_
  rintro e w3 ⟨rfl, hb3⟩
  have W3 := hidTrans W2 hb3 (by omega)
  have G3 := Lib.hid (keepF hb3 (by omega) G2.out.1 G2.out.2)
  have z3 := hb3.size
  clear hb3 W2 y0 y1 y2
  go_wp2_with fail
  refine (hm _ ((W3.out.cell (p := ⟨b, o, none⟩) hlt).trans HC.out)).mono ?_
  rintro e w4 ⟨rfl, hb4⟩
  have W4 := hidTrans W3 hb4 (by omega)
  have G4 := Lib.hid (keepF hb4 (by omega) G3.out.1 G3.out.2)
  have z4 := hb4.size
  clear hb4 W3
  go_wp2_with fail
  refine (normal_any _ _ _ _ _ s1 s2).mono ?_
  rintro e w5 ⟨rfl, hb5⟩
  have W5 := hidTrans W4 hb5 (by omega)
  have G5 := Lib.hid (keepF hb5 (by omega) G4.out.1 G4.out.2)
  have z5 := hb5.size
  clear hb5 W4
  go_wp2_with fail
  refine (check_four _ _ _ _ (nL_64 l' h' hl') (nH_64 l' h' hh') (nS_64 l' h' st' dn' s1 s2) hr).mono ?_
  rintro e w6 ⟨rfl, hb6⟩
  obtain ⟨V6, z6, y0, y1, y2⟩ := box3 hb6
  have W6 := hidTrans W5 V6.out (by omega)
  have G6 := keepF V6.out (by omega) G5.out.1 G5.out.2
  obtain ⟨⟨g0, g1, g2⟩, f0, f1, f2⟩ := G6
  clear hb6 W5 V6
  go_wp2
  refine bodyPost_ret (v := .tuple #[.agg #[.int .i64 0, .int .i64 0, .int .i64 0], .int .i64 4]) (by simp [results, Try.results108, go_sem, *]) rfl ⟨rfl, ?_⟩
  repeat (first | exact W6.out | refine Below.setCell ?_ (by simp; try omega) _)
set_option maxHeartbeats 800000 in
theorem moved_Expand (b o : Nat) (vn : Value) (l h s l' h' st' : Int) (dn' : Bool) (w : World) (hk : Hid (chk l h s = 0)) (hle : l ≤ h) (hc : w.cell? ⟨b, o, none⟩ = some vn)
    (hm : Moves 114 ⟨b, o, none⟩ vn l h (magA s) (decide (s < 0)) l' h' st' dn') (hl' : I64 l') (hh' : I64 h') (s1 : -4000000000000 ≤ st') (s2 : st' ≤ 4000000000000) (hr : Hid (chk (nL l' h') (nH l' h') (nS l' h' st' dn') = 0)) :
    Calls Try.prog 108 #[.agg #[.int .i64 l, .int .i64 h, .int .i64 s], .func (.func 114) #[] #[.pointer (some ⟨b, o, none⟩)]] w fun e w' => e = .returned (.tuple #[.agg #[.int .i64 (nL l' h'), .int .i64 (nH l' h'), .int .i64 (nS l' h' st' dn')], .int .i64 0]) ∧ Below w.heap.size w w' := by
  obtain ⟨b1, b2, b3, b4, b5, b6, b7, b8⟩ := chk_bounds hk.out
  have q := quo_bd (h - l) (magA s) (by omega) b7
  have hz : ((h - l) / magA s + 1 == 0) = false := by simp; omega
  have hlt : b < w.heap.size := World.block_lt_of_cell? w _ hc
  have HC := Lib.hid hc
  clear hc q
  go_enter Try.func108, Try.ntmps108
  go_wp2_with fail
  refine (check_ok l h s _ ⟨by omega, by omega⟩ ⟨by omega, by omega⟩ ⟨by omega, by omega⟩ hk).mono ?_
  rintro e w1 ⟨rfl, hb1⟩
  obtain ⟨W1, z1, ⟨x0, x1, x2⟩, Y, F⟩ := res2 hb1
  have Y1 := Lib.hid Y
  have F1 := Lib.hid F
  clear hb1 Y F
  go_wp2_with fail
  refine (size_ok l h s _ hk hle).mono ?_
  rintro e w2 ⟨rfl, hb2⟩
  have W2 := hidTrans W1 hb2 (by omega)
  obtain ⟨z2, y0, y1, y2⟩ := keep3 hb2 (show w.heap.size < w1.heap.size by omega) x0 x1 x2
  have G2 := Lib.hid (keepF hb2 z1 Y1.out F1.out)
  have z2' := hb2.size
  clear hb2 W1 x0 x1 x2
  go_wp2_with fail
  refine (open_any _ _ _ _ (by omega) (by omega)).mono ?_
  rintro e w3 ⟨rfl, hb3⟩
  have W3 := hidTrans W2 hb3 (by omega)
  have G3 := Lib.hid (keepF hb3 (by omega) G2.out.1 G2.out.2)
  have z3 := hb3.size
  clear hb3 W2 y0 y1 y2
  go_wp2_with fail
  refine (hm _ ((W3.out.cell (p := ⟨b, o, none⟩) hlt).trans HC.out)).mono ?_
  rintro e w4 ⟨rfl, hb4⟩
  have W4 := hidTrans W3 hb4 (by omega)
  have G4 := Lib.hid (keepF hb4 (by omega) G3.out.1 G3.out.2)
  have z4 := hb4.size
  clear hb4 W3
  go_wp2_with fail
  refine (normal_any _ _ _ _ _ s1 s2).mono ?_
  rintro e w5 ⟨rfl, hb5⟩
  have W5 := hidTrans W4 hb5 (by omega)
  have G5 := Lib.hid (keepF hb5 (by omega) G4.out.1 G4.out.2)
  have z5 := hb5.size
  clear hb5 W4
  go_wp2_with fail
  refine (check_ok _ _ _ _ (nL_64 l' h' hl') (nH_64 l' h' hh') (nS_64 l' h' st' dn' s1 s2) hr).mono ?_
  rintro e w6 ⟨rfl, hb6⟩
  obtain ⟨V6, z6, y0, y1, y2⟩ := box3 hb6
  have W6 := hidTrans W5 V6.out (by omega)
  have G6 := keepF V6.out (by omega) G5.out.1 G5.out.2
  obtain ⟨⟨g0, g1, g2⟩, f0, f1, f2⟩ := G6
  clear hb6 W5 V6
  go_wp2
  refine bodyPost_ret (v := .tuple #[.agg #[.int .i64 (nL l' h'), .int .i64 (nH l' h'), .int .i64 (nS l' h' st' dn')], .int .i64 0]) (by simp [results, Try.results108, go_sem, *]) rfl ⟨rfl, ?_⟩
  repeat (first | exact W6.out | refine Below.setCell ?_ (by simp; try omega) _)
set_option maxHeartbeats 800000 in
theorem movedBad_Expand (b o : Nat) (vn : Value) (l h s l' h' st' : Int) (dn' : Bool) (w : World) (hk : Hid (chk l h s = 0)) (hle : l ≤ h) (hc : w.cell? ⟨b, o, none⟩ = some vn)
    (hm : Moves 114 ⟨b, o, none⟩ vn l h (magA s) (decide (s < 0)) l' h' st' dn') (hl' : I64 l') (hh' : I64 h') (s1 : -4000000000000 ≤ st') (s2 : st' ≤ 4000000000000) (hr : Hid (chk (nL l' h') (nH l' h') (nS l' h' st' dn') = 4)) :
    Calls Try.prog 108 #[.agg #[.int .i64 l, .int .i64 h, .int .i64 s], .func (.func 114) #[] #[.pointer (some ⟨b, o, none⟩)]] w fun e w' => e = .returned (.tuple #[.agg #[.int .i64 0, .int .i64 0, .int .i64 0], .int .i64 4]) ∧ Below w.heap.size w w' := by
  obtain ⟨b1, b2, b3, b4, b5, b6, b7, b8⟩ := chk_bounds hk.out
  have q := quo_bd (h - l) (magA s) (by omega) b7
  have hz : ((h - l) / magA s + 1 == 0) = false := by simp; omega
  have hlt : b < w.heap.size := World.block_lt_of_cell? w _ hc
  have HC := Lib.hid hc
  clear hc q
  go_enter Try.func108, Try.ntmps108
  go_wp2_with fail
  refine (check_ok l h s _ ⟨by omega, by omega⟩ ⟨by omega, by omega⟩ ⟨by omega, by omega⟩ hk).mono ?_
  rintro e w1 ⟨rfl, hb1⟩
  obtain ⟨W1, z1, ⟨x0, x1, x2⟩, Y, F⟩ := res2 hb1
  have Y1 := Lib.hid Y
  have F1 := Lib.hid F
  clear hb1 Y F
  go_wp2_with fail
  refine (size_ok l h s _ hk hle).mono ?_
  rintro e w2 ⟨rfl, hb2⟩
  have W2 := hidTrans W1 hb2 (by omega)
  obtain ⟨z2, y0, y1, y2⟩ := keep3 hb2 (show w.heap.size < w1.heap.size by omega) x0 x1 x2
  have G2 := Lib.hid (keepF hb2 z1 Y1.out F1.out)
  have z2' := hb2.size
  clear hb2 W1 x0 x1 x2
  go_wp2_with fail
  refine (open_any _ _ _ _ (by omega) (by omega)).mono ?_
  rintro e w3 ⟨rfl, hb3⟩
  have W3 := hidTrans W2 hb3 (by omega)
  have G3 := Lib.hid (keepF hb3 (by omega) G2.out.1 G2.out.2)
  have z3 := hb3.size
  clear hb3 W2 y0 y1 y2
  go_wp2_with fail
  refine (hm _ ((W3.out.cell (p := ⟨b, o, none⟩) hlt).trans HC.out)).mono ?_
  rintro e w4 ⟨rfl, hb4⟩
  have W4 := hidTrans W3 hb4 (by omega)
  have G4 := Lib.hid (keepF hb4 (by omega) G3.out.1 G3.out.2)
  have z4 := hb4.size
  clear hb4 W3
  go_wp2_with fail
  refine (normal_any _ _ _ _ _ s1 s2).mono ?_
  rintro e w5 ⟨rfl, hb5⟩
  have W5 := hidTrans W4 hb5 (by omega)
  have G5 := Lib.hid (keepF hb5 (by omega) G4.out.1 G4.out.2)
  have z5 := hb5.size
  clear hb5 W4
  go_wp2_with fail
  refine (check_four _ _ _ _ (nL_64 l' h' hl') (nH_64 l' h' hh') (nS_64 l' h' st' dn' s1 s2) hr).mono ?_
  rintro e w6 ⟨rfl, hb6⟩
  obtain ⟨V6, z6, y0, y1, y2⟩ := box3 hb6
  have W6 := hidTrans W5 V6.out (by omega)
  have G6 := keepF V6.out (by omega) G5.out.1 G5.out.2
  obtain ⟨⟨g0, g1, g2⟩, f0, f1, f2⟩ := G6
  clear hb6 W5 V6
  go_wp2
  refine bodyPost_ret (v := .tuple #[.agg #[.int .i64 0, .int .i64 0, .int .i64 0], .int .i64 4]) (by simp [results, Try.results108, go_sem, *]) rfl ⟨rfl, ?_⟩
  repeat (first | exact W6.out | refine Below.setCell ?_ (by simp; try omega) _)
end Go.Proofs.Ytdifilndpilboaa
