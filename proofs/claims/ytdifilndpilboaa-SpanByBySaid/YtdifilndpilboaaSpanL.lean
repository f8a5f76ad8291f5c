/-
  The contracts of span.Translate, Expand, Exterior, Interior, Count and By out of those of their parts.
-/
import Derived.Test.YtdifilndpilboaaSpanK
import Derived.Test.YtdifilndpilboaaSpanI
import Derived.WalkKit
import Derived.WalkSpells
import Derived.WalkLawsBesides
import Derived.Lib.Hide
namespace Go.Proofs.Ytdifilndpilboaa
open Go.RowKit

/-- a change of a range returns a range and an error -/
def Ret4 (f : FuncId) (l h s n a b c e : Int) : Prop := ∀ w : World, Calls Try.prog f #[.agg #[.int .i64 l, .int .i64 h, .int .i64 s], .int .i64 n] w fun e' w' => e' = .returned (.tuple #[.agg #[.int .i64 a, .int .i64 b, .int .i64 c], .int .i64 e]) ∧ Below w.heap.size w w'
/-- moved with a closure that captured the number k returns a range and an error -/
def MovedTo (fv : FuncId) (l h s k a b c e : Int) : Prop := ∀ (b0 o : Nat) (w : World), w.cell? ⟨b0, o, none⟩ = some (.int .i64 k) →
  Calls Try.prog 108 #[.agg #[.int .i64 l, .int .i64 h, .int .i64 s], .func (.func fv) #[] #[.pointer (some ⟨b0, o, none⟩)]] w fun e' w' => e' = .returned (.tuple #[.agg #[.int .i64 a, .int .i64 b, .int .i64 c], .int .i64 e]) ∧ Below w.heap.size w w'

theorem movedTo_chk (fv : FuncId) (l h s k : Int) (hl : I64 l) (hh : I64 h) (hs : I64 s) (hk : ¬ chk l h s = 0) : MovedTo fv l h s k 0 0 0 (chk l h s) :=
  fun _ _ w _ => movedChk fv _ l h s w hl hh hs hk
theorem movedTo_empty (fv : FuncId) (k : Int) : MovedTo fv 1 0 1 k 1 0 1 0 := fun _ _ w _ => movedEmpty fv _ w

set_option maxHeartbeats 800000 in
theorem wrapTranslate (l h s n a b c e : Int) (hm : Hid (MovedTo 111 l h s (clampI n) a b c e)) : Ret4 32 l h s n a b c e := by
  intro w
  go_enter Try.func32, Try.ntmps32
  go_wp2_with fail
  refine (clamp_any _ _).mono ?_
  rintro e w' ⟨rfl, rfl⟩
  go_wp2_with fail
  refine (hm.out (w.heap.size + 1) 0 _ (by simp [go_sem])).mono ?_
  rintro e w1 ⟨rfl, hb1⟩
  obtain ⟨W1, z1, ⟨x0, x1, x2⟩, xn, ⟨y0, y1, y2⟩, f0, f1, f2⟩ := res3b hb1
  clear hb1
  go_wp2
  refine bodyPost_ret (v := (.tuple #[.agg #[.int .i64 a, .int .i64 b, .int .i64 c], .int .i64 e])) (by simp [results, Try.results32, go_sem, *]) rfl ⟨rfl, ?_⟩
  repeat (first | exact W1.out | refine Below.setCell ?_ (by simp; try omega) _)

set_option maxHeartbeats 800000 in
theorem wrapExpand (l h s n a b c e : Int) (hm : Hid (MovedTo 114 l h s (clampI n) a b c e)) : Ret4 34 l h s n a b c e := by
  intro w
  go_enter Try.func34, Try.ntmps34
  go_wp2_with fail
  refine (clamp_any _ _).mono ?_
  rintro e w' ⟨rfl, rfl⟩
  go_wp2_with fail
  refine (hm.out (w.heap.size + 1) 0 _ (by simp [go_sem])).mono ?_
  rintro e w1 ⟨rfl, hb1⟩
  obtain ⟨W1, z1, ⟨x0, x1, x2⟩, xn, ⟨y0, y1, y2⟩, f0, f1, f2⟩ := res3b hb1
  clear hb1
  go_wp2
  refine bodyPost_ret (v := (.tuple #[.agg #[.int .i64 a, .int .i64 b, .int .i64 c], .int .i64 e])) (by simp [results, Try.results34, go_sem, *]) rfl ⟨rfl, ?_⟩
  repeat (first | exact W1.out | refine Below.setCell ?_ (by simp; try omega) _)

set_option maxHeartbeats 800000 in
theorem wrapExterior (l h s n a b c e : Int) (hm : Hid (MovedTo 116 l h s (clampI n) a b c e)) : Ret4 38 l h s n a b c e := by
  intro w
  go_enter Try.func38, Try.ntmps38
  go_wp2_with fail
  refine (clamp_any _ _).mono ?_
  rintro e w' ⟨rfl, rfl⟩
  go_wp2_with fail
  refine (hm.out (w.heap.size + 1) 0 _ (by simp [go_sem])).mono ?_
  rintro e w1 ⟨rfl, hb1⟩
  obtain ⟨W1, z1, ⟨x0, x1, x2⟩, xn, ⟨y0, y1, y2⟩, f0, f1, f2⟩ := res3b hb1
  clear hb1
  go_wp2
  refine bodyPost_ret (v := (.tuple #[.agg #[.int .i64 a, .int .i64 b, .int .i64 c], .int .i64 e])) (by simp [results, Try.results38, go_sem, *]) rfl ⟨rfl, ?_⟩
  repeat (first | exact W1.out | refine Below.setCell ?_ (by simp; try omega) _)

set_option maxHeartbeats 800000 in
theorem interiorChk (l h s n : Int) (hl : I64 l) (hh : I64 h) (hs : I64 s) (hk : ¬ chk l h s = 0) : Ret4 36 l h s n 0 0 0 (chk l h s) := by
  intro w
  have hn : (chk l h s != 0) = true := by simp [hk]
  clear hk
  go_enter Try.func36, Try.ntmps36
  go_wp2_with fail
  refine (check64 l h s _ hl hh hs).mono ?_
  rintro e w1 ⟨rfl, hb1⟩
  obtain ⟨W1, z1, ⟨x0, x1, x2⟩, xn, ⟨y0, y1, y2⟩, f0, f1, f2⟩ := res3b hb1
  clear hb1
  go_wp2
  refine bodyPost_ret (v := .tuple #[.agg #[.int .i64 0, .int .i64 0, .int .i64 0], .int .i64 (chk l h s)]) (by simp [results, Try.results36, go_sem, *]) rfl ⟨rfl, ?_⟩
  repeat (first | exact W1.out | refine Below.setCell ?_ (by simp; try omega) _)

theorem siz_bd {l h s : Int} (hk : chk l h s = 0) : 0 ≤ siz l h s ∧ siz l h s ≤ 2000001 := by
  obtain ⟨b1, b2, b3, b4, b5, b6, b7, b8⟩ := chk_bounds hk
  unfold siz
  split
  · rename_i c
    have := quo_bd (h - l) (magA s) (by omega) b7
    omega
  · omega

set_option maxHeartbeats 800000 in
theorem interiorCount (l h s n : Int) (hk : Hid (chk l h s = 0)) (hn : siz l h s < n ∨ n < -siz l h s) : Ret4 36 l h s n 0 0 0 5 := by
  intro w
  obtain ⟨b1, b2, b3, b4, b5, b6, b7, b8⟩ := chk_bounds hk.out
  have z0 := siz_bd hk.out
  go_enter Try.func36, Try.ntmps36
  go_wp2_with fail
  refine (check_ok l h s _ ⟨by omega, by omega⟩ ⟨by omega, by omega⟩ ⟨by omega, by omega⟩ hk).mono ?_
  rintro e w1 ⟨rfl, hb1⟩
  obtain ⟨W1, z1, ⟨x0, x1, x2⟩, xn, Y, F⟩ := res3b hb1
  have Y1 := Lib.hid Y
  have F1 := Lib.hid F
  clear hb1 Y F
  go_wp2_with fail
  refine (Size_any l h s _ ⟨by omega, by omega⟩ ⟨by omega, by omega⟩ ⟨by omega, by omega⟩).mono ?_
  rintro e w2 ⟨rfl, hb2⟩
  have W2 := hidTrans W1 hb2 (by omega)
  obtain ⟨z2, u0, u1, u2⟩ := keep3 hb2 (show w.heap.size < w1.heap.size by omega) x0 x1 x2
  have un := (hb2.cell (p := ⟨w.heap.size + 1, 0, none⟩) (by simp; omega)).trans xn
  have G2 := Lib.hid (keepF hb2 z1 Y1.out F1.out)
  have z2' := hb2.size
  clear hb2 W1 x0 x1 x2 xn
  obtain ⟨⟨g0, g1, g2⟩, f0, f1, f2⟩ := G2.out
  rcases hn with hn | hn
  · go_wp2
    refine bodyPost_ret (v := .tuple #[.agg #[.int .i64 0, .int .i64 0, .int .i64 0], .int .i64 5]) (by simp [results, Try.results36, go_sem, *]) rfl ⟨rfl, ?_⟩
    repeat (first | exact W2.out | refine Below.setCell ?_ (by simp; try omega) _)
  · have hn' : ¬ siz l h s < n := by omega
    go_wp2
    refine bodyPost_ret (v := .tuple #[.agg #[.int .i64 0, .int .i64 0, .int .i64 0], .int .i64 5]) (by simp [results, Try.results36, go_sem, *]) rfl ⟨rfl, ?_⟩
    repeat (first | exact W2.out | refine Below.setCell ?_ (by simp; try omega) _)

set_option maxHeartbeats 800000 in
theorem interiorMoved (l h s n a b c e : Int) (hk : Hid (chk l h s = 0)) (hn1 : ¬ siz l h s < n) (hn2 : ¬ n < -siz l h s) (hm : Hid (MovedTo 115 l h s n a b c e)) : Ret4 36 l h s n a b c e := by
  intro w
  obtain ⟨b1, b2, b3, b4, b5, b6, b7, b8⟩ := chk_bounds hk.out
  have z0 := siz_bd hk.out
  go_enter Try.func36, Try.ntmps36
  go_wp2_with fail
  refine (check_ok l h s _ ⟨by omega, by omega⟩ ⟨by omega, by omega⟩ ⟨by omega, by omega⟩ hk).mono ?_
  rintro e w1 ⟨rfl, hb1⟩
  obtain ⟨W1, z1, ⟨x0, x1, x2⟩, xn, Y, F⟩ := res3b hb1
  have Y1 := Lib.hid Y
  have F1 := Lib.hid F
  clear hb1 Y F
  go_wp2_with fail
  refine (Size_any l h s _ ⟨by omega, by omega⟩ ⟨by omega, by omega⟩ ⟨by omega, by omega⟩).mono ?_
  rintro e w2 ⟨rfl, hb2⟩
  have W2 := hidTrans W1 hb2 (by omega)
  obtain ⟨z2, u0, u1, u2⟩ := keep3 hb2 (show w.heap.size < w1.heap.size by omega) x0 x1 x2
  have un := (hb2.cell (p := ⟨w.heap.size + 1, 0, none⟩) (by simp; omega)).trans xn
  have G2 := Lib.hid (keepF hb2 z1 Y1.out F1.out)
  have z2' := hb2.size
  clear hb2 W1 x0 x1 x2 xn
  go_wp2_with fail
  refine (hm.out (w.heap.size + 1) 0 _ un).mono ?_
  rintro e w3 ⟨rfl, hb3⟩
  have W3 := hidTrans W2 hb3 (by omega)
  obtain ⟨⟨g0, g1, g2⟩, f0, f1, f2⟩ := keepF hb3 (by omega) G2.out.1 G2.out.2
  clear hb3 W2 u0 u1 u2 un
  go_wp2
  refine bodyPost_ret (v := (.tuple #[.agg #[.int .i64 a, .int .i64 b, .int .i64 c], .int .i64 e])) (by simp [results, Try.results36, go_sem, *]) rfl ⟨rfl, ?_⟩
  repeat (first | exact W3.out | refine Below.setCell ?_ (by simp; try omega) _)

set_option maxHeartbeats 800000 in
theorem countUp (l h s n n' a b c e : Int) (hs : 0 < s) (hn : Hid (IntKind.i64.wrap (-n) = n')) (hm : Hid (Ret4 36 l h s n' a b c e)) : Ret4 30 l h s n a b c e := by
  intro w
  have hn' := hn.out
  rw [IntWalk.i64_left] at hn'
  go_enter Try.func30, Try.ntmps30
  go_wp2_with fail
  refine (hm.out _).mono ?_
  rintro e w1 ⟨rfl, hb1⟩
  obtain ⟨W1, z1, ⟨x0, x1, x2⟩, ⟨y0, y1, y2⟩, f0, f1, f2⟩ := res2 hb1
  clear hb1 hn'
  go_wp2
  refine bodyPost_ret (v := (.tuple #[.agg #[.int .i64 a, .int .i64 b, .int .i64 c], .int .i64 e])) (by simp [results, Try.results30, go_sem, *]) rfl ⟨rfl, ?_⟩
  repeat (first | exact W1.out | refine Below.setCell ?_ (by simp; try omega) _)

set_option maxHeartbeats 800000 in
theorem countDown (l h s n a b c e : Int) (hs : ¬ 0 < s) (hm : Hid (Ret4 36 l h s n a b c e)) : Ret4 30 l h s n a b c e := by
  intro w
  go_enter Try.func30, Try.ntmps30
  go_wp2_with fail
  refine (hm.out _).mono ?_
  rintro e w1 ⟨rfl, hb1⟩
  obtain ⟨W1, z1, ⟨x0, x1, x2⟩, ⟨y0, y1, y2⟩, f0, f1, f2⟩ := res2 hb1
  clear hb1
  go_wp2
  refine bodyPost_ret (v := (.tuple #[.agg #[.int .i64 a, .int .i64 b, .int .i64 c], .int .i64 e])) (by simp [results, Try.results30, go_sem, *]) rfl ⟨rfl, ?_⟩
  repeat (first | exact W1.out | refine Below.setCell ?_ (by simp; try omega) _)

set_option maxHeartbeats 800000 in
theorem byChk (l h s n : Int) (hl : I64 l) (hh : I64 h) (hs : I64 s) (hk : ¬ chk l h s = 0) : Ret4 28 l h s n 0 0 0 (chk l h s) := by
  have hn : (chk l h s != 0) = true := by simp [hk]
  clear hk
  intro w
  go_enter Try.func28, Try.ntmps28
  go_wp2_with fail
  refine (check64 l h s _ hl hh hs).mono ?_
  rintro e w1 ⟨rfl, hb1⟩
  obtain ⟨W1, z1, ⟨x0, x1, x2⟩, xn, ⟨y0, y1, y2⟩, f0, f1, f2⟩ := res3b hb1
  clear hb1
  go_wp2
  refine bodyPost_ret (v := .tuple #[.agg #[.int .i64 0, .int .i64 0, .int .i64 0], .int .i64 (chk l h s)]) (by simp [results, Try.results28, go_sem, *]) rfl ⟨rfl, ?_⟩
  repeat (first | exact W1.out | refine Below.setCell ?_ (by simp; try omega) _)

set_option maxHeartbeats 800000 in
theorem byZero (l h s : Int) (hk : Hid (chk l h s = 0)) : Ret4 28 l h s 0 0 0 0 1 := by
  obtain ⟨b1, b2, b3, b4, b5, b6, b7, b8⟩ := chk_bounds hk.out
  intro w
  go_enter Try.func28, Try.ntmps28
  go_wp2_with fail
  refine (check_ok l h s _ ⟨by omega, by omega⟩ ⟨by omega, by omega⟩ ⟨by omega, by omega⟩ hk).mono ?_
  rintro e w1 ⟨rfl, hb1⟩
  obtain ⟨W1, z1, ⟨x0, x1, x2⟩, xn, ⟨y0, y1, y2⟩, f0, f1, f2⟩ := res3b hb1
  clear hb1
  go_wp2
  refine bodyPost_ret (v := .tuple #[.agg #[.int .i64 0, .int .i64 0, .int .i64 0], .int .i64 1]) (by simp [results, Try.results28, go_sem, *]) rfl ⟨rfl, ?_⟩
  repeat (first | exact W1.out | refine Below.setCell ?_ (by simp; try omega) _)

set_option maxHeartbeats 800000 in
theorem byOut (l h s n : Int) (hk : Hid (chk l h s = 0)) (n0 : ¬ n = 0) (hn : Hid (¬ (-1000000 ≤ n ∧ n ≤ 1000000))) : Ret4 28 l h s n 0 0 0 4 := by
  obtain ⟨b1, b2, b3, b4, b5, b6, b7, b8⟩ := chk_bounds hk.out
  have n0' : (n == 0) = false := by simp [n0]
  intro w
  go_enter Try.func28, Try.ntmps28
  go_wp2_with fail
  refine (check_ok l h s _ ⟨by omega, by omega⟩ ⟨by omega, by omega⟩ ⟨by omega, by omega⟩ hk).mono ?_
  rintro e w1 ⟨rfl, hb1⟩
  obtain ⟨W1, z1, ⟨x0, x1, x2⟩, xn, ⟨y0, y1, y2⟩, f0, f1, f2⟩ := res3b hb1
  clear hb1
  go_wp2_with fail
  refine (limited_no _ _ hn.out).mono ?_
  rintro e w' ⟨rfl, rfl⟩
  go_wp2
  refine bodyPost_ret (v := .tuple #[.agg #[.int .i64 0, .int .i64 0, .int .i64 0], .int .i64 4]) (by simp [results, Try.results28, go_sem, *]) rfl ⟨rfl, ?_⟩
  repeat (first | exact W1.out | refine Below.setCell ?_ (by simp; try omega) _)

set_option maxHeartbeats 800000 in
theorem byEmpty (n : Int) (n0 : ¬ n = 0) (n1 : -1000000 ≤ n) (n2 : n ≤ 1000000) : Ret4 28 1 0 1 n 1 0 1 0 := by
  have n0' : (n == 0) = false := by simp [n0]
  intro w
  go_enter Try.func28, Try.ntmps28
  go_wp2_with fail
  refine (check_ok 1 0 1 _ ⟨by omega, by omega⟩ ⟨by omega, by omega⟩ ⟨by omega, by omega⟩ (Lib.hid (show chk 1 0 1 = 0 by decide))).mono ?_
  rintro e w1 ⟨rfl, hb1⟩
  obtain ⟨W1, z1, ⟨x0, x1, x2⟩, xn, Y, F⟩ := res3b hb1
  have Y1 := Lib.hid Y
  have F1 := Lib.hid F
  clear hb1 Y F
  go_wp2_with fail
  refine (limited_yes _ _ n1 n2).mono ?_
  rintro e w' ⟨rfl, rfl⟩
  go_wp2_with fail
  refine (movedEmpty _ _ _).mono ?_
  rintro e w2 ⟨rfl, hb2⟩
  have W2 := hidTrans W1 hb2 (by omega)
  obtain ⟨⟨g0, g1, g2⟩, f0, f1, f2⟩ := keepF hb2 z1 Y1.out F1.out
  clear hb2 W1 x0 x1 x2 xn
  go_wp2
  refine bodyPost_ret (v := .tuple #[.agg #[.int .i64 1, .int .i64 0, .int .i64 1], .int .i64 0]) (by simp [results, Try.results28, go_sem, *]) rfl ⟨rfl, ?_⟩
  repeat (first | exact W2.out | refine Below.setCell ?_ (by simp; try omega) _)

end Go.Proofs.Ytdifilndpilboaa
