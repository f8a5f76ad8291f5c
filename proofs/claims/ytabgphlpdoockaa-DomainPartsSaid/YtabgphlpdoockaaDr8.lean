/-
  Part 8: SpanI, SpanL, RefF, RefG.
-/
import Derived.Test.YtabgphlpdoockaaDr2
import Derived.Test.YtabgphlpdoockaaDr7
import Derived.BigQuiet
import Derived.BigRegion
import Derived.Deep.DrawnRows
import Derived.Deep.QuietTactic
import Derived.Deep.RegionHeld3
import Derived.Lib.Hide
import Derived.WalkKit
import Derived.WalkLawsBesides
import Derived.WalkSpells
namespace Go.Proofs.Ytabgphlpdoockaa
open Go.RowKit
theorem clamp_lo (n : Int) (w : World) (h : n < -2000001) :
    Calls Try.prog 119 #[.int .i64 n] w fun e w' => e = .returned (.int .i64 (-2000001)) ∧ w = w' := by
  have h2 : ¬ 2000001 < n := by omega
  have h3 : ¬ -2000001 < n := by omega
  go_enter Try.func119, Try.ntmps119
  go_wp2
  go_ret
  exact ⟨rfl, rfl⟩
theorem clamp_hi (n : Int) (w : World) (h : 2000001 < n) :
    Calls Try.prog 119 #[.int .i64 n] w fun e w' => e = .returned (.int .i64 2000001) ∧ w = w' := by
  go_enter Try.func119, Try.ntmps119
  go_wp2
  go_ret
  exact ⟨rfl, rfl⟩
theorem clamp_in (n : Int) (w : World) (h1 : -2000001 ≤ n) (h2 : n ≤ 2000001) :
    Calls Try.prog 119 #[.int .i64 n] w fun e w' => e = .returned (.int .i64 n) ∧ w = w' := by
  have h3 : ¬ 2000001 < n := by omega
  by_cases h4 : n = -2000001
  · subst h4
    go_enter Try.func119, Try.ntmps119
    go_wp2
    go_ret
    exact ⟨rfl, rfl⟩
  · have h5 : -2000001 < n := by omega
    go_enter Try.func119, Try.ntmps119
    go_wp2
    go_ret
    exact ⟨rfl, rfl⟩
def clampI (n : Int) : Int := if n < -2000001 then -2000001 else if 2000001 < n then 2000001 else n
theorem clamp_any (n : Int) (w : World) :
    Calls Try.prog 119 #[.int .i64 n] w fun e w' => e = .returned (.int .i64 (clampI n)) ∧ w = w' := by
  unfold clampI
  split
  · exact clamp_lo n w ‹_›
  · split
    · exact clamp_hi n w ‹_›
    · exact clamp_in n w (by omega) (by omega)
theorem clampI_bd (n : Int) : -2000001 ≤ clampI n ∧ clampI n ≤ 2000001 := by unfold clampI; split; omega; split <;> omega
set_option maxHeartbeats 800000 in
theorem trClo (l h m n : Int) (dn : Bool) (b o : Nat) (w : World) (hc : w.cell? ⟨b, o, none⟩ = some (.int .i64 n)) (h0 : -1000000 ≤ l) (h1 : l ≤ 1000000) (h2 : -1000000 ≤ h) (h3 : h ≤ 1000000) (n1 : -2000001 ≤ n) (n2 : n ≤ 2000001)  :
    Calls Try.prog 120 #[.agg #[.int .i64 l, .int .i64 h, .int .i64 m, .bool dn], .pointer (some ⟨b, o, none⟩)] w fun e w' => e = .returned (.agg #[.int .i64 (l + n), .int .i64 (h + n), .int .i64 m, .bool dn]) ∧ Below w.heap.size w w' := by
  have hb : b < w.heap.size := World.block_lt_of_cell? w _ hc
  have hne : b ≠ w.heap.size := by omega
  have hne1 : b ≠ w.heap.size + 1 := by omega
  go_enter Try.func120, Try.ntmps120
  go_wp2
  refine bodyPost_ret (v := .agg #[.int .i64 (l + n), .int .i64 (h + n), .int .i64 m, .bool dn]) (by simp [results, Try.results120, go_sem, *]) rfl ⟨rfl, ?_⟩
  repeat (first | exact Below.refl _ _ | refine Below.alloc ?_ (by simp; try omega) _ | refine Below.setCell ?_ (by simp; try omega) _ | refine Below.drew ?_ | refine below_drewN ?_ _)
set_option maxHeartbeats 800000 in
theorem exClo (l h m n : Int) (dn : Bool) (b o : Nat) (w : World) (hc : w.cell? ⟨b, o, none⟩ = some (.int .i64 n)) (hn1 : -5000000000000 ≤ n * m) (hn2 : n * m ≤ 5000000000000) (h0 : -1000000 ≤ l) (h1 : l ≤ 1000000) (h2 : -1000000 ≤ h) (h3 : h ≤ 1000000) (_m0 : 0 ≤ m) (_m1 : m ≤ 2000000) (_n1 : -2000001 ≤ n) (_n2 : n ≤ 2000001)  :
    Calls Try.prog 123 #[.agg #[.int .i64 l, .int .i64 h, .int .i64 m, .bool dn], .pointer (some ⟨b, o, none⟩)] w fun e w' => e = .returned (.agg #[.int .i64 (l - n * m), .int .i64 (h + n * m), .int .i64 m, .bool dn]) ∧ Below w.heap.size w w' := by
  have hb : b < w.heap.size := World.block_lt_of_cell? w _ hc
  have hne : b ≠ w.heap.size := by omega
  have hne1 : b ≠ w.heap.size + 1 := by omega
  go_enter Try.func123, Try.ntmps123
  go_wp2
  refine bodyPost_ret (v := .agg #[.int .i64 (l - n * m), .int .i64 (h + n * m), .int .i64 m, .bool dn]) (by simp [results, Try.results123, go_sem, *]) rfl ⟨rfl, ?_⟩
  repeat (first | exact Below.refl _ _ | refine Below.alloc ?_ (by simp; try omega) _ | refine Below.setCell ?_ (by simp; try omega) _ | refine Below.drew ?_ | refine below_drewN ?_ _)
set_option maxHeartbeats 800000 in
theorem inCloN (l h m n : Int) (dn : Bool) (b o : Nat) (w : World) (hc : w.cell? ⟨b, o, none⟩ = some (.int .i64 n)) (h0 : -1000000 ≤ l) (h1 : l ≤ 1000000) (_h2 : -1000000 ≤ h) (_h3 : h ≤ 1000000) (n1 : -2000001 ≤ n) (n2 : n ≤ 2000001) (hn : n < 0) (p1 : -5000000000000 ≤ (-n - 1) * m) (p2 : (-n - 1) * m ≤ 5000000000000) :
    Calls Try.prog 124 #[.agg #[.int .i64 l, .int .i64 h, .int .i64 m, .bool dn], .pointer (some ⟨b, o, none⟩)] w fun e w' => e = .returned (.agg #[.int .i64 (l), .int .i64 (l + (-n - 1) * m), .int .i64 m, .bool dn]) ∧ Below w.heap.size w w' := by
  have hb : b < w.heap.size := World.block_lt_of_cell? w _ hc
  have hne : b ≠ w.heap.size := by omega
  have hne1 : b ≠ w.heap.size + 1 := by omega
  go_enter Try.func124, Try.ntmps124
  go_wp2
  refine bodyPost_ret (v := .agg #[.int .i64 (l), .int .i64 (l + (-n - 1) * m), .int .i64 m, .bool dn]) (by simp [results, Try.results124, go_sem, *]) rfl ⟨rfl, ?_⟩
  repeat (first | exact Below.refl _ _ | refine Below.alloc ?_ (by simp; try omega) _ | refine Below.setCell ?_ (by simp; try omega) _ | refine Below.drew ?_ | refine below_drewN ?_ _)
set_option maxHeartbeats 800000 in
theorem inCloP (l h m n : Int) (dn : Bool) (b o : Nat) (w : World) (hc : w.cell? ⟨b, o, none⟩ = some (.int .i64 n)) (_h0 : -1000000 ≤ l) (_h1 : l ≤ 1000000) (h2 : -1000000 ≤ h) (h3 : h ≤ 1000000) (n1 : -2000001 ≤ n) (n2 : n ≤ 2000001) (hn : ¬ n < 0) (p1 : -5000000000000 ≤ (n - 1) * m) (p2 : (n - 1) * m ≤ 5000000000000) :
    Calls Try.prog 124 #[.agg #[.int .i64 l, .int .i64 h, .int .i64 m, .bool dn], .pointer (some ⟨b, o, none⟩)] w fun e w' => e = .returned (.agg #[.int .i64 (h - (n - 1) * m), .int .i64 (h), .int .i64 m, .bool dn]) ∧ Below w.heap.size w w' := by
  have hb : b < w.heap.size := World.block_lt_of_cell? w _ hc
  have hne : b ≠ w.heap.size := by omega
  have hne1 : b ≠ w.heap.size + 1 := by omega
  go_enter Try.func124, Try.ntmps124
  go_wp2
  refine bodyPost_ret (v := .agg #[.int .i64 (h - (n - 1) * m), .int .i64 (h), .int .i64 m, .bool dn]) (by simp [results, Try.results124, go_sem, *]) rfl ⟨rfl, ?_⟩
  repeat (first | exact Below.refl _ _ | refine Below.alloc ?_ (by simp; try omega) _ | refine Below.setCell ?_ (by simp; try omega) _ | refine Below.drew ?_ | refine below_drewN ?_ _)
set_option maxHeartbeats 800000 in
theorem xtCloN (l h m n : Int) (dn : Bool) (b o : Nat) (w : World) (hc : w.cell? ⟨b, o, none⟩ = some (.int .i64 n)) (hn1 : -5000000000000 ≤ n * m) (hn2 : n * m ≤ 5000000000000) (h0 : -1000000 ≤ l) (h1 : l ≤ 1000000) (_h2 : -1000000 ≤ h) (_h3 : h ≤ 1000000) (m0 : 0 ≤ m) (m1 : m ≤ 2000000) (_n1 : -2000001 ≤ n) (_n2 : n ≤ 2000001) (hn : n < 0) :
    Calls Try.prog 125 #[.agg #[.int .i64 l, .int .i64 h, .int .i64 m, .bool dn], .pointer (some ⟨b, o, none⟩)] w fun e w' => e = .returned (.agg #[.int .i64 (l + n * m), .int .i64 (l - m), .int .i64 m, .bool dn]) ∧ Below w.heap.size w w' := by
  have hb : b < w.heap.size := World.block_lt_of_cell? w _ hc
  have hne : b ≠ w.heap.size := by omega
  have hne1 : b ≠ w.heap.size + 1 := by omega
  go_enter Try.func125, Try.ntmps125
  go_wp2
  refine bodyPost_ret (v := .agg #[.int .i64 (l + n * m), .int .i64 (l - m), .int .i64 m, .bool dn]) (by simp [results, Try.results125, go_sem, *]) rfl ⟨rfl, ?_⟩
  repeat (first | exact Below.refl _ _ | refine Below.alloc ?_ (by simp; try omega) _ | refine Below.setCell ?_ (by simp; try omega) _ | refine Below.drew ?_ | refine below_drewN ?_ _)
set_option maxHeartbeats 800000 in
theorem xtCloP (l h m n : Int) (dn : Bool) (b o : Nat) (w : World) (hc : w.cell? ⟨b, o, none⟩ = some (.int .i64 n)) (hn1 : -5000000000000 ≤ n * m) (hn2 : n * m ≤ 5000000000000) (_h0 : -1000000 ≤ l) (_h1 : l ≤ 1000000) (h2 : -1000000 ≤ h) (h3 : h ≤ 1000000) (m0 : 0 ≤ m) (m1 : m ≤ 2000000) (_n1 : -2000001 ≤ n) (_n2 : n ≤ 2000001) (hn : ¬ n < 0) :
    Calls Try.prog 125 #[.agg #[.int .i64 l, .int .i64 h, .int .i64 m, .bool dn], .pointer (some ⟨b, o, none⟩)] w fun e w' => e = .returned (.agg #[.int .i64 (h + m), .int .i64 (h + n * m), .int .i64 m, .bool dn]) ∧ Below w.heap.size w w' := by
  have hb : b < w.heap.size := World.block_lt_of_cell? w _ hc
  have hne : b ≠ w.heap.size := by omega
  have hne1 : b ≠ w.heap.size + 1 := by omega
  have k1 : IntKind.i64.wrap (h + m) = h + m := IntWalk.i64_in _ (by omega)
  have k2 : IntKind.i64.wrap (n * m) = n * m := IntWalk.i64_in _ (by omega)
  have k3 : IntKind.i64.wrap (h + n * m) = h + n * m := IntWalk.i64_in _ (by omega)
  go_enter Try.func125, Try.ntmps125
  go_wp2_with fail
  go_region
  all_goals
    go_wp2
    refine bodyPost_ret (v := .agg #[.int .i64 (h + m), .int .i64 (h + n * m), .int .i64 m, .bool dn]) (by simp [results, Try.results125, go_sem, *]) rfl ⟨rfl, ?_⟩
    repeat (first | exact Below.refl _ _ | refine Below.alloc ?_ (by simp; try omega) _ | refine Below.setCell ?_ (by simp; try omega) _ | refine Below.drew ?_ | refine below_drewN ?_ _)
end Go.Proofs.Ytabgphlpdoockaa
namespace Go.Proofs.Ytabgphlpdoockaa
open Go.RowKit
/-- a change of a range returns a range and an error -/
def Ret4 (f : FuncId) (l h s n a b c e : Int) : Prop := ∀ w : World, Calls Try.prog f #[.agg #[.int .i64 l, .int .i64 h, .int .i64 s], .int .i64 n] w fun e' w' => e' = .returned (.tuple #[.agg #[.int .i64 a, .int .i64 b, .int .i64 c], .int .i64 e]) ∧ Below w.heap.size w w'
/-- moved with a closure that captured the number k returns a range and an error -/
def MovedTo (fv : FuncId) (l h s k a b c e : Int) : Prop := ∀ (b0 o : Nat) (w : World), w.cell? ⟨b0, o, none⟩ = some (.int .i64 k) →
  Calls Try.prog 117 #[.agg #[.int .i64 l, .int .i64 h, .int .i64 s], .func (.func fv) #[] #[.pointer (some ⟨b0, o, none⟩)]] w fun e' w' => e' = .returned (.tuple #[.agg #[.int .i64 a, .int .i64 b, .int .i64 c], .int .i64 e]) ∧ Below w.heap.size w w'
theorem movedTo_chk (fv : FuncId) (l h s k : Int) (hl : I64 l) (hh : I64 h) (hs : I64 s) (hk : ¬ chk l h s = 0) : MovedTo fv l h s k 0 0 0 (chk l h s) :=
  fun _ _ w _ => movedChk fv _ l h s w hl hh hs hk
theorem movedTo_empty (fv : FuncId) (k : Int) : MovedTo fv 1 0 1 k 1 0 1 0 := fun _ _ w _ => movedEmpty fv _ w
set_option maxHeartbeats 800000 in
theorem wrapTranslate (l h s n a b c e : Int) (hm : Hid (MovedTo 120 l h s (clampI n) a b c e)) : Ret4 35 l h s n a b c e := by
  intro w
  go_enter Try.func35, Try.ntmps35
  go_wp2_with fail
  refine (clamp_any _ _).mono ?_
  rintro e w' ⟨rfl, rfl⟩
  go_wp2_with fail
  refine (hm.out (w.heap.size + 1) 0 _ (by simp [go_sem])).mono ?_
  rintro e w1 ⟨rfl, hb1⟩
  obtain ⟨W1, z1, ⟨x0, x1, x2⟩, xn, ⟨y0, y1, y2⟩, f0, f1, f2⟩ := res3b hb1
  clear hb1
  go_wp2
  refine bodyPost_ret (v := (.tuple #[.agg #[.int .i64 a, .int .i64 b, .int .i64 c], .int .i64 e])) (by simp [results, Try.results35, go_sem, *]) rfl ⟨rfl, ?_⟩
  repeat (first | exact W1.out | refine Below.setCell ?_ (by simp; try omega) _)
set_option maxHeartbeats 800000 in
theorem wrapExpand (l h s n a b c e : Int) (hm : Hid (MovedTo 123 l h s (clampI n) a b c e)) : Ret4 37 l h s n a b c e := by
  intro w
  go_enter Try.func37, Try.ntmps37
  go_wp2_with fail
  refine (clamp_any _ _).mono ?_
  rintro e w' ⟨rfl, rfl⟩
  go_wp2_with fail
  refine (hm.out (w.heap.size + 1) 0 _ (by simp [go_sem])).mono ?_
  rintro e w1 ⟨rfl, hb1⟩
  obtain ⟨W1, z1, ⟨x0, x1, x2⟩, xn, ⟨y0, y1, y2⟩, f0, f1, f2⟩ := res3b hb1
  clear hb1
  go_wp2
  refine bodyPost_ret (v := (.tuple #[.agg #[.int .i64 a, .int .i64 b, .int .i64 c], .int .i64 e])) (by simp [results, Try.results37, go_sem, *]) rfl ⟨rfl, ?_⟩
  repeat (first | exact W1.out | refine Below.setCell ?_ (by simp; try omega) _)
set_option maxHeartbeats 800000 in
theorem wrapExterior (l h s n a b c e : Int) (hm : Hid (MovedTo 125 l h s (clampI n) a b c e)) : Ret4 41 l h s n a b c e := by
  intro w
  go_enter Try.func41, Try.ntmps41
  go_wp2_with fail
  refine (clamp_any _ _).mono ?_
  rintro e w' ⟨rfl, rfl⟩
  go_wp2_with fail
  refine (hm.out (w.heap.size + 1) 0 _ (by simp [go_sem])).mono ?_
  rintro e w1 ⟨rfl, hb1⟩
  obtain ⟨W1, z1, ⟨x0, x1, x2⟩, xn, ⟨y0, y1, y2⟩, f0, f1, f2⟩ := res3b hb1
  clear hb1
  go_wp2
  refine bodyPost_ret (v := (.tuple #[.agg #[.int .i64 a, .int .i64 b, .int .i64 c], .int .i64 e])) (by simp [results, Try.results41, go_sem, *]) rfl ⟨rfl, ?_⟩
  repeat (first | exact W1.out | refine Below.setCell ?_ (by simp; try omega) _)
set_option maxHeartbeats 800000 in
theorem interiorChk (l h s n : Int) (hl : I64 l) (hh : I64 h) (hs : I64 s) (hk : ¬ chk l h s = 0) : Ret4 39 l h s n 0 0 0 (chk l h s) := by
  intro w
  have hn : (chk l h s != 0) = true := by simp [hk]
  clear hk
  go_enter Try.func39, Try.ntmps39
  go_wp2_with fail
  refine (check64 l h s _ hl hh hs).mono ?_
  rintro e w1 ⟨rfl, hb1⟩
  obtain ⟨W1, z1, ⟨x0, x1, x2⟩, xn, ⟨y0, y1, y2⟩, f0, f1, f2⟩ := res3b hb1
  clear hb1
  go_wp2
  refine bodyPost_ret (v := .tuple #[.agg #[.int .i64 0, .int .i64 0, .int .i64 0], .int .i64 (chk l h s)]) (by simp [results, Try.results39, go_sem, *]) rfl ⟨rfl, ?_⟩
  repeat (first | exact W1.out | refine Below.setCell ?_ (by simp; try omega) _)
theorem siz_bd {l h s : Int} (hk : chk l h s = 0) : 0 ≤ siz l h s ∧ siz l h s ≤ 2000001 := by
  obtain ⟨b1, b2, b3, b4, b5, b6, b7, b8⟩ := chk_bounds hk
  unfold siz
  split
  · rename_i c
    have := quo_bd (h - l) (magA s) (by omega) b7
    omega
  · omega
set_option maxHeartbeats 800000 in
theorem interiorCount (l h s n : Int) (hk : Hid (chk l h s = 0)) (hn : siz l h s < n ∨ n < -siz l h s) : Ret4 39 l h s n 0 0 0 5 := by
  intro w
  obtain ⟨b1, b2, b3, b4, b5, b6, b7, b8⟩ := chk_bounds hk.out
  have z0 := siz_bd hk.out
  go_enter Try.func39, Try.ntmps39
  go_wp2_with fail
  refine (check_ok l h s _ ⟨by omega, by omega⟩ ⟨by omega, by omega⟩ ⟨by omega, by omega⟩ hk).mono ?_
  rintro e w1 ⟨rfl, hb1⟩
  obtain ⟨W1, z1, ⟨x0, x1, x2⟩, xn, Y, F⟩ := res3b hb1
  have Y1 := Lib.hid Y
  have F1 := Lib.hid F
  clear hb1 Y F
  go_wp2_with fail
  refine (Size_any l h s _ ⟨by omega, by omega⟩ ⟨by omega, by omega⟩ ⟨by omega, by omega⟩).mono ?_
  rintro e w2 ⟨rfl, hb2⟩
  have W2 := hidTrans W1 hb2 (by omega)
  obtain ⟨z2, u0, u1, u2⟩ := keep3 hb2 (show w.heap.size < w1.heap.size by omega) x0 x1 x2
  have un := (hb2.cell (p := ⟨w.heap.size + 1, 0, none⟩) (by simp; omega)).trans xn
  have G2 := Lib.hid (keepF hb2 z1 Y1.out F1.out)
  have z2' := hb2.size
  clear hb2 W1 x0 x1 x2 xn
  obtain ⟨⟨g0, g1, g2⟩, f0, f1, f2⟩ := G2.out
  rcases hn with hn | hn
  · go_wp2
    refine bodyPost_ret (v := .tuple #[.agg #[.int .i64 0, .int .i64 0, .int .i64 0], .int .i64 5]) (by simp [results, Try.results39, go_sem, *]) rfl ⟨rfl, ?_⟩
    repeat (first | exact W2.out | refine Below.setCell ?_ (by simp; try omega) _)
  · have hn' : ¬ siz l h s < n := by omega
    go_wp2
    refine bodyPost_ret (v := .tuple #[.agg #[.int .i64 0, .int .i64 0, .int .i64 0], .int .i64 5]) (by simp [results, Try.results39, go_sem, *]) rfl ⟨rfl, ?_⟩
    repeat (first | exact W2.out | refine Below.setCell ?_ (by simp; try omega) _)
set_option maxHeartbeats 800000 in
theorem interiorMoved (l h s n a b c e : Int) (hk : Hid (chk l h s = 0)) (hn1 : ¬ siz l h s < n) (hn2 : ¬ n < -siz l h s) (hm : Hid (MovedTo 124 l h s n a b c e)) : Ret4 39 l h s n a b c e := by
  intro w
  obtain ⟨b1, b2, b3, b4, b5, b6, b7, b8⟩ := chk_bounds hk.out
  have z0 := siz_bd hk.out
  go_enter Try.func39, Try.ntmps39
  go_wp2_with fail
  refine (check_ok l h s _ ⟨by omega, by omega⟩ ⟨by omega, by omega⟩ ⟨by omega, by omega⟩ hk).mono ?_
  rintro e w1 ⟨rfl, hb1⟩
  obtain ⟨W1, z1, ⟨x0, x1, x2⟩, xn, Y, F⟩ := res3b hb1
  have Y1 := Lib.hid Y
  have F1 := Lib.hid F
  clear hb1 Y F
  go_wp2_with fail
  refine (Size_any l h s _ ⟨by omega, by omega⟩ ⟨by omega, by omega⟩ ⟨by omega, by omega⟩).mono ?_
  rintro e w2 ⟨rfl, hb2⟩
  have W2 := hidTrans W1 hb2 (by omega)
  obtain ⟨z2, u0, u1, u2⟩ := keep3 hb2 (show w.heap.size < w1.heap.size by omega) x0 x1 x2
  have un := (hb2.cell (p := ⟨w.heap.size + 1, 0, none⟩) (by simp; omega)).trans xn
  have G2 := Lib.hid (keepF hb2 z1 Y1.out F1.out)
  have z2' := hb2.size
  clear hb2 W1 x0 x1 x2 xn
  go_wp2_with fail
  refine (hm.out (w.heap.size + 1) 0 _ un).mono ?_
  rintro e w3 ⟨rfl, hb3⟩
  have W3 := hidTrans W2 hb3 (by omega)
  obtain ⟨⟨g0, g1, g2⟩, f0, f1, f2⟩ := keepF hb3 (by omega) G2.out.1 G2.out.2
  clear hb3 W2 u0 u1 u2 un
  go_wp2
  refine bodyPost_ret (v := (.tuple #[.agg #[.int .i64 a, .int .i64 b, .int .i64 c], .int .i64 e])) (by simp [results, Try.results39, go_sem, *]) rfl ⟨rfl, ?_⟩
  repeat (first | exact W3.out | refine Below.setCell ?_ (by simp; try omega) _)
set_option maxHeartbeats 800000 in
theorem byChk (l h s n : Int) (hl : I64 l) (hh : I64 h) (hs : I64 s) (hk : ¬ chk l h s = 0) : Ret4 31 l h s n 0 0 0 (chk l h s) := by
  have hn : (chk l h s != 0) = true := by simp [hk]
  clear hk
  intro w
  go_enter Try.func31, Try.ntmps31
  go_wp2_with fail
  refine (check64 l h s _ hl hh hs).mono ?_
  rintro e w1 ⟨rfl, hb1⟩
  obtain ⟨W1, z1, ⟨x0, x1, x2⟩, xn, ⟨y0, y1, y2⟩, f0, f1, f2⟩ := res3b hb1
  clear hb1
  go_wp2
  refine bodyPost_ret (v := .tuple #[.agg #[.int .i64 0, .int .i64 0, .int .i64 0], .int .i64 (chk l h s)]) (by simp [results, Try.results31, go_sem, *]) rfl ⟨rfl, ?_⟩
  repeat (first | exact W1.out | refine Below.setCell ?_ (by simp; try omega) _)
end Go.Proofs.Ytabgphlpdoockaa
namespace Go.Proofs.Ytabgphlpdoockaa
open Go.RowKit
theorem far_no (n : Int) (w : World) (h1 : -2000000 ≤ n) (h2 : n ≤ 2000000) :
    Calls Try.prog 121 #[.int .i64 n] w fun e w' => e = .returned (.bool false) ∧ w = w' := by
  have d1 : decide (2000000 < n) = false := by simp; omega
  have d2 : decide (n < -2000000) = false := by simp; omega
  go_enter Try.func121, Try.ntmps121
  go_wp2
  go_ret
  exact ⟨rfl, rfl⟩
theorem far_yes (n : Int) (w : World) (h : ¬ (-2000000 ≤ n ∧ n ≤ 2000000)) :
    Calls Try.prog 121 #[.int .i64 n] w fun e w' => e = .returned (.bool true) ∧ w = w' := by
  by_cases c : 2000000 < n
  · have d1 : decide (2000000 < n) = true := by simp [c]
    clear h
    go_enter Try.func121, Try.ntmps121
    go_wp2
    go_ret
    exact ⟨rfl, rfl⟩
  · have d1 : decide (2000000 < n) = false := by simp; omega
    have d2 : decide (n < -2000000) = true := by simp; omega
    clear h
    go_enter Try.func121, Try.ntmps121
    go_wp2
    go_ret
    exact ⟨rfl, rfl⟩
set_option maxHeartbeats 800000 in
theorem lim_none (lo hi st : Int) (dn : Bool) (w : World) (h : hi < lo) (s1 : -4000000000000 ≤ st) (s2 : st ≤ 4000000000000) :
    Calls Try.prog 122 #[.int .i64 lo, .int .i64 hi, .int .i64 st, .bool dn] w fun e w' => e = .returned (.tuple #[.agg #[.int .i64 (nL lo hi), .int .i64 (nH lo hi), .int .i64 (nS lo hi st dn)], .int .i64 0]) ∧ Below w.heap.size w w' := by
  go_enter Try.func122, Try.ntmps122
  go_wp2_with fail
  refine (refNormal_any _ _ _ _ _ s1 s2).mono ?_
  rintro e w1 ⟨rfl, hb1⟩
  obtain ⟨W1, z1, ⟨x0, x1, x2⟩, f0, f1, f2⟩ := res1 hb1
  clear hb1
  go_wp2
  refine bodyPost_ret (v := .tuple #[.agg #[.int .i64 (nL lo hi), .int .i64 (nH lo hi), .int .i64 (nS lo hi st dn)], .int .i64 0]) (by simp [results, Try.results122, go_sem, *]) rfl ⟨rfl, ?_⟩
  repeat (first | exact Below.refl _ _ | exact W1.out | refine Below.alloc ?_ (by simp; try omega) _ | refine Below.setCell ?_ (by simp; try omega) _)
set_option maxHeartbeats 800000 in
theorem lim_in (lo hi st : Int) (dn : Bool) (w : World) (h : lo ≤ hi) (h1 : -1000000 ≤ lo) (h2 : hi ≤ 1000000) (h3 : lo ≤ 1000000) (h4 : -1000000 ≤ hi) (s1 : -4000000000000 ≤ st) (s2 : st ≤ 4000000000000) :
    Calls Try.prog 122 #[.int .i64 lo, .int .i64 hi, .int .i64 st, .bool dn] w fun e w' => e = .returned (.tuple #[.agg #[.int .i64 (nL lo hi), .int .i64 (nH lo hi), .int .i64 (nS lo hi st dn)], .int .i64 0]) ∧ Below w.heap.size w w' := by
  go_enter Try.func122, Try.ntmps122
  go_wp2_with fail
  refine (within_yes _ _ h1 h3).mono ?_
  rintro e w' ⟨rfl, rfl⟩
  go_wp2_with fail
  refine (within_yes _ _ h4 h2).mono ?_
  rintro e w' ⟨rfl, rfl⟩
  go_wp2_with fail
  refine (refNormal_any _ _ _ _ _ s1 s2).mono ?_
  rintro e w1 ⟨rfl, hb1⟩
  obtain ⟨W1, z1, ⟨x0, x1, x2⟩, f0, f1, f2⟩ := res1 hb1
  clear hb1
  go_wp2
  refine bodyPost_ret (v := .tuple #[.agg #[.int .i64 (nL lo hi), .int .i64 (nH lo hi), .int .i64 (nS lo hi st dn)], .int .i64 0]) (by simp [results, Try.results122, go_sem, *]) rfl ⟨rfl, ?_⟩
  repeat (first | exact Below.refl _ _ | exact W1.out | refine Below.alloc ?_ (by simp; try omega) _ | refine Below.setCell ?_ (by simp; try omega) _)
set_option maxHeartbeats 800000 in
theorem lim_lo (lo hi st : Int) (dn : Bool) (w : World) (h : lo ≤ hi) (h1 : Hid (¬ (-1000000 ≤ lo ∧ lo ≤ 1000000))) :
    Calls Try.prog 122 #[.int .i64 lo, .int .i64 hi, .int .i64 st, .bool dn] w fun e w' => e = .returned (.tuple #[.agg #[.int .i64 0, .int .i64 0, .int .i64 0], .int .i64 4]) ∧ Below w.heap.size w w' := by
  go_enter Try.func122, Try.ntmps122
  go_wp2_with fail
  refine (within_no _ _ h1.out).mono ?_
  rintro e w' ⟨rfl, rfl⟩
  go_wp2
  refine bodyPost_ret (v := .tuple #[.agg #[.int .i64 0, .int .i64 0, .int .i64 0], .int .i64 4]) (by simp [results, Try.results122, go_sem, *]) rfl ⟨rfl, ?_⟩
  repeat (first | exact Below.refl _ _ | exact W1.out | refine Below.alloc ?_ (by simp; try omega) _ | refine Below.setCell ?_ (by simp; try omega) _)
set_option maxHeartbeats 800000 in
theorem lim_hi (lo hi st : Int) (dn : Bool) (w : World) (h : lo ≤ hi) (h1 : -1000000 ≤ lo) (h3 : lo ≤ 1000000) (h2 : Hid (¬ (-1000000 ≤ hi ∧ hi ≤ 1000000))) :
    Calls Try.prog 122 #[.int .i64 lo, .int .i64 hi, .int .i64 st, .bool dn] w fun e w' => e = .returned (.tuple #[.agg #[.int .i64 0, .int .i64 0, .int .i64 0], .int .i64 4]) ∧ Below w.heap.size w w' := by
  go_enter Try.func122, Try.ntmps122
  go_wp2_with fail
  refine (within_yes _ _ h1 h3).mono ?_
  rintro e w' ⟨rfl, rfl⟩
  go_wp2_with fail
  refine (within_no _ _ h2.out).mono ?_
  rintro e w' ⟨rfl, rfl⟩
  go_wp2
  refine bodyPost_ret (v := .tuple #[.agg #[.int .i64 0, .int .i64 0, .int .i64 0], .int .i64 4]) (by simp [results, Try.results122, go_sem, *]) rfl ⟨rfl, ?_⟩
  repeat (first | exact Below.refl _ _ | exact W1.out | refine Below.alloc ?_ (by simp; try omega) _ | refine Below.setCell ?_ (by simp; try omega) _)
/-- what limited returns: the normal range, or the error -/
theorem lim_bad (lo hi st : Int) (dn : Bool) (w : World) (h : lo ≤ hi) (h1 : lo < -1000000 ∨ 1000000 < hi) :
    Calls Try.prog 122 #[.int .i64 lo, .int .i64 hi, .int .i64 st, .bool dn] w fun e w' => e = .returned (.tuple #[.agg #[.int .i64 0, .int .i64 0, .int .i64 0], .int .i64 4]) ∧ Below w.heap.size w w' := by
  by_cases c : -1000000 ≤ lo ∧ lo ≤ 1000000
  · exact lim_hi lo hi st dn w h c.1 c.2 (show ¬ _ by omega)
  · exact lim_lo lo hi st dn w h c
theorem lim_good (lo hi st : Int) (dn : Bool) (w : World) (h : lo ≤ hi → -1000000 ≤ lo ∧ hi ≤ 1000000) (s1 : -4000000000000 ≤ st) (s2 : st ≤ 4000000000000) :
    Calls Try.prog 122 #[.int .i64 lo, .int .i64 hi, .int .i64 st, .bool dn] w fun e w' => e = .returned (.tuple #[.agg #[.int .i64 (nL lo hi), .int .i64 (nH lo hi), .int .i64 (nS lo hi st dn)], .int .i64 0]) ∧ Below w.heap.size w w' := by
  by_cases c : hi < lo
  · exact lim_none lo hi st dn w c s1 s2
  · have := h (by omega)
    exact lim_in lo hi st dn w (by omega) this.1 this.2 (by omega) (by omega) s1 s2
/-- limited at two ends returns a range and an error -/
def LimTo (lo hi st : Int) (dn : Bool) (a b c e : Int) : Prop := ∀ w : World, Calls Try.prog 122 #[.int .i64 lo, .int .i64 hi, .int .i64 st, .bool dn] w fun e' w' => e' = .returned (.tuple #[.agg #[.int .i64 a, .int .i64 b, .int .i64 c], .int .i64 e]) ∧ Below w.heap.size w w'
end Go.Proofs.Ytabgphlpdoockaa
namespace Go.Proofs.Ytabgphlpdoockaa
open Go.RowKit
set_option maxHeartbeats 800000 in
theorem refTranslateChk (l h s n : Int) (hl : I64 l) (hh : I64 h) (hs : I64 s) (hk : ¬ chk l h s = 0) : Ret4 36 l h s n 0 0 0 (chk l h s) := by
  have hn : (chk l h s != 0) = true := by simp [hk]
  clear hk
  intro w
  go_enter Try.func36, Try.ntmps36
  go_wp2_with fail
  refine (refCheck_any l h s _ hl hh hs).mono ?_
  rintro e w1 ⟨rfl, hb1⟩
  obtain ⟨W1, z1, ⟨x0, x1, x2⟩, Y, Fz⟩ := res2 hb1
  obtain ⟨g0, g1, g2⟩ := Y
  obtain ⟨f0, f1, f2⟩ := Fz
  clear hb1
  go_wp2
  refine bodyPost_ret (v := .tuple #[.agg #[.int .i64 0, .int .i64 0, .int .i64 0], .int .i64 (chk l h s)]) (by simp [results, Try.results36, go_sem, *]) rfl ⟨rfl, ?_⟩
  repeat (first | exact W1.out | refine Below.setCell ?_ (by simp; try omega) _)
set_option maxHeartbeats 800000 in
theorem refExpandChk (l h s n : Int) (hl : I64 l) (hh : I64 h) (hs : I64 s) (hk : ¬ chk l h s = 0) : Ret4 38 l h s n 0 0 0 (chk l h s) := by
  have hn : (chk l h s != 0) = true := by simp [hk]
  clear hk
  intro w
  go_enter Try.func38, Try.ntmps38
  go_wp2_with fail
  refine (refCheck_any l h s _ hl hh hs).mono ?_
  rintro e w1 ⟨rfl, hb1⟩
  obtain ⟨W1, z1, ⟨x0, x1, x2⟩, Y, Fz⟩ := res2 hb1
  obtain ⟨g0, g1, g2⟩ := Y
  obtain ⟨f0, f1, f2⟩ := Fz
  clear hb1
  go_wp2
  refine bodyPost_ret (v := .tuple #[.agg #[.int .i64 0, .int .i64 0, .int .i64 0], .int .i64 (chk l h s)]) (by simp [results, Try.results38, go_sem, *]) rfl ⟨rfl, ?_⟩
  repeat (first | exact W1.out | refine Below.setCell ?_ (by simp; try omega) _)
set_option maxHeartbeats 800000 in
theorem refInteriorChk (l h s n : Int) (hl : I64 l) (hh : I64 h) (hs : I64 s) (hk : ¬ chk l h s = 0) : Ret4 40 l h s n 0 0 0 (chk l h s) := by
  have hn : (chk l h s != 0) = true := by simp [hk]
  clear hk
  intro w
  go_enter Try.func40, Try.ntmps40
  go_wp2_with fail
  refine (refCheck_any l h s _ hl hh hs).mono ?_
  rintro e w1 ⟨rfl, hb1⟩
  obtain ⟨W1, z1, ⟨x0, x1, x2⟩, Y, Fz⟩ := res2 hb1
  obtain ⟨g0, g1, g2⟩ := Y
  obtain ⟨f0, f1, f2⟩ := Fz
  clear hb1
  go_wp2
  refine bodyPost_ret (v := .tuple #[.agg #[.int .i64 0, .int .i64 0, .int .i64 0], .int .i64 (chk l h s)]) (by simp [results, Try.results40, go_sem, *]) rfl ⟨rfl, ?_⟩
  repeat (first | exact W1.out | refine Below.setCell ?_ (by simp; try omega) _)
set_option maxHeartbeats 800000 in
theorem refExteriorChk (l h s n : Int) (hl : I64 l) (hh : I64 h) (hs : I64 s) (hk : ¬ chk l h s = 0) : Ret4 42 l h s n 0 0 0 (chk l h s) := by
  have hn : (chk l h s != 0) = true := by simp [hk]
  clear hk
  intro w
  go_enter Try.func42, Try.ntmps42
  go_wp2_with fail
  refine (refCheck_any l h s _ hl hh hs).mono ?_
  rintro e w1 ⟨rfl, hb1⟩
  obtain ⟨W1, z1, ⟨x0, x1, x2⟩, Y, Fz⟩ := res2 hb1
  obtain ⟨g0, g1, g2⟩ := Y
  obtain ⟨f0, f1, f2⟩ := Fz
  clear hb1
  go_wp2
  refine bodyPost_ret (v := .tuple #[.agg #[.int .i64 0, .int .i64 0, .int .i64 0], .int .i64 (chk l h s)]) (by simp [results, Try.results42, go_sem, *]) rfl ⟨rfl, ?_⟩
  repeat (first | exact W1.out | refine Below.setCell ?_ (by simp; try omega) _)
theorem refEmptyB (w : World) :
    Calls Try.prog 107 #[] w fun e w' => e = .returned (.agg #[.int .i64 1, .int .i64 0, .int .i64 1]) ∧ Below w.heap.size w w' :=
  (refEmpty_any w).mono fun _ _ ⟨he, hw⟩ => ⟨he, by rw [← hw]; exact (Below.refl _ _).alloc (Nat.le_refl _) _⟩
set_option maxHeartbeats 800000 in
theorem refTranslateEmpty (n : Int) : Ret4 36 1 0 1 n 1 0 1 0 := by
  have e0 : reqB 1 0 1 1 0 1 = true := by decide
  intro w
  go_enter Try.func36, Try.ntmps36
  go_wp2_with fail
  refine (refCheck_ok 1 0 1 _ (Lib.hid (show chk 1 0 1 = 0 by decide))).mono ?_
  rintro e w1 ⟨rfl, hb1⟩
  obtain ⟨W1, z1, ⟨x0, x1, x2⟩, Y, Fz⟩ := res2 hb1
  have Y1 := Lib.hid Y
  have F1 := Lib.hid Fz
  clear hb1 Y Fz
  go_wp2_with fail
  refine (refIsEmpty_any _ _ _ _).mono ?_
  rintro e w2 ⟨rfl, hb2⟩
  have W2 := hidTrans W1 hb2 (by omega)
  obtain ⟨z2, u0, u1, u2⟩ := keep3 hb2 (show w.heap.size < w1.heap.size by omega) x0 x1 x2
  have G2 := Lib.hid (keepF hb2 z1 Y1.out F1.out)
  have z2' := hb2.size
  clear hb2 W1 x0 x1 x2
  obtain ⟨⟨g0, g1, g2⟩, f0, f1, f2⟩ := G2.out
  go_wp2
  refine bodyPost_ret (v := .tuple #[.agg #[.int .i64 1, .int .i64 0, .int .i64 1], .int .i64 0]) (by simp [results, Try.results36, go_sem, *]) rfl ⟨rfl, ?_⟩
  repeat (first | exact W2.out | refine Below.setCell ?_ (by simp; try omega) _)
set_option maxHeartbeats 800000 in
theorem refExpandEmpty (n : Int) : Ret4 38 1 0 1 n 1 0 1 0 := by
  have e0 : reqB 1 0 1 1 0 1 = true := by decide
  intro w
  go_enter Try.func38, Try.ntmps38
  go_wp2_with fail
  refine (refCheck_ok 1 0 1 _ (Lib.hid (show chk 1 0 1 = 0 by decide))).mono ?_
  rintro e w1 ⟨rfl, hb1⟩
  obtain ⟨W1, z1, ⟨x0, x1, x2⟩, Y, Fz⟩ := res2 hb1
  have Y1 := Lib.hid Y
  have F1 := Lib.hid Fz
  clear hb1 Y Fz
  go_wp2_with fail
  refine (refIsEmpty_any _ _ _ _).mono ?_
  rintro e w2 ⟨rfl, hb2⟩
  have W2 := hidTrans W1 hb2 (by omega)
  obtain ⟨z2, u0, u1, u2⟩ := keep3 hb2 (show w.heap.size < w1.heap.size by omega) x0 x1 x2
  have G2 := Lib.hid (keepF hb2 z1 Y1.out F1.out)
  have z2' := hb2.size
  clear hb2 W1 x0 x1 x2
  go_wp2_with fail
  refine (refEmptyB _).mono ?_
  rintro e w3 ⟨rfl, hb3⟩
  have W3 := hidTrans W2 hb3 (by omega)
  obtain ⟨⟨g0, g1, g2⟩, f0, f1, f2⟩ := keepF hb3 (by omega) G2.out.1 G2.out.2
  clear hb3 W2
  go_wp2
  refine bodyPost_ret (v := .tuple #[.agg #[.int .i64 1, .int .i64 0, .int .i64 1], .int .i64 0]) (by simp [results, Try.results38, go_sem, *]) rfl ⟨rfl, ?_⟩
  repeat (first | exact W3.out | refine Below.setCell ?_ (by simp; try omega) _)
set_option maxHeartbeats 800000 in
theorem refExteriorEmpty (n : Int) : Ret4 42 1 0 1 n 1 0 1 0 := by
  have e0 : reqB 1 0 1 1 0 1 = true := by decide
  intro w
  go_enter Try.func42, Try.ntmps42
  go_wp2_with fail
  refine (refCheck_ok 1 0 1 _ (Lib.hid (show chk 1 0 1 = 0 by decide))).mono ?_
  rintro e w1 ⟨rfl, hb1⟩
  obtain ⟨W1, z1, ⟨x0, x1, x2⟩, Y, Fz⟩ := res2 hb1
  have Y1 := Lib.hid Y
  have F1 := Lib.hid Fz
  clear hb1 Y Fz
  go_wp2_with fail
  refine (refIsEmpty_any _ _ _ _).mono ?_
  rintro e w2 ⟨rfl, hb2⟩
  have W2 := hidTrans W1 hb2 (by omega)
  obtain ⟨z2, u0, u1, u2⟩ := keep3 hb2 (show w.heap.size < w1.heap.size by omega) x0 x1 x2
  have G2 := Lib.hid (keepF hb2 z1 Y1.out F1.out)
  have z2' := hb2.size
  clear hb2 W1 x0 x1 x2
  go_wp2_with fail
  refine (refEmptyB _).mono ?_
  rintro e w3 ⟨rfl, hb3⟩
  have W3 := hidTrans W2 hb3 (by omega)
  obtain ⟨⟨g0, g1, g2⟩, f0, f1, f2⟩ := keepF hb3 (by omega) G2.out.1 G2.out.2
  clear hb3 W2
  go_wp2
  refine bodyPost_ret (v := .tuple #[.agg #[.int .i64 1, .int .i64 0, .int .i64 1], .int .i64 0]) (by simp [results, Try.results42, go_sem, *]) rfl ⟨rfl, ?_⟩
  repeat (first | exact W3.out | refine Below.setCell ?_ (by simp; try omega) _)
set_option maxHeartbeats 1600000 in
theorem refTranslateLim (l h s n a b c e : Int) (hk : Hid (chk l h s = 0)) (hle : l ≤ h) (n1 : -2000000 ≤ n) (n2 : n ≤ 2000000) (hm : Hid (LimTo (l + n) (h + n) (magA s) (decide (s < 0)) a b c e)) : Ret4 36 l h s n a b c e := by
  obtain ⟨b1, b2, b3, b4, b5, b6, b7, b8⟩ := chk_bounds hk.out
  have e0 : reqB l h s 1 0 1 = false := by unfold reqB; simp; omega
  have k1 : IntKind.i64.wrap (l + n) = l + n := IntWalk.i64_in _ (by omega)
  have k2 : IntKind.i64.wrap (h + n) = h + n := IntWalk.i64_in _ (by omega)
  intro w
  go_enter Try.func36, Try.ntmps36
  go_wp2_with fail
  refine (refCheck_ok l h s _ hk).mono ?_
  rintro e w1 ⟨rfl, hb1⟩
  obtain ⟨W1, z1, ⟨x0, x1, x2⟩, Y, Fz⟩ := res2 hb1
  have Y1 := Lib.hid Y
  have F1 := Lib.hid Fz
  clear hb1 Y Fz
  go_wp2_with fail
  refine (refIsEmpty_any _ _ _ _).mono ?_
  rintro e w2 ⟨rfl, hb2⟩
  have W2 := hidTrans W1 hb2 (by omega)
  obtain ⟨z2, u0, u1, u2⟩ := keep3 hb2 (show w.heap.size < w1.heap.size by omega) x0 x1 x2
  have G2 := Lib.hid (keepF hb2 z1 Y1.out F1.out)
  have z2' := hb2.size
  clear hb2 W1 x0 x1 x2
  go_wp2_with fail
  refine (far_no _ _ n1 n2).mono ?_
  rintro e w' ⟨rfl, rfl⟩
  go_wp2_with fail
  refine wp_region_held_drew (S := (fun w' => w'.cell? ⟨w.heap.size, 0, none⟩ = some (.int .i64 l) ∧ w'.cell? ⟨w.heap.size, 1, none⟩ = some (.int .i64 h) ∧ w'.cell? ⟨w.heap.size, 2, none⟩ = some (.int .i64 s))) (by kernel_rfl) ?_ (fun hHeld => ?_)
  · go_keep
  refine wpAnyH_take (i := 0) (oi := { dst := some 19, op := Op.fieldAddr 23 (Operand.tmp 2) 0, type := 0, pos := "ref.go:212", after := #[], guard := none }) (v := ?_) rfl (by kernel_rfl) (by kernel_rfl) (by kernel_rfl) (fun _ _ _ h => h) (Or.inl ⟨by rfl, ?_⟩) (by assumption) ?_
  rotate_left
  · (intro w hSw; (try dsimp only at hSw); go_simp; first | done | with_reducible rfl)
  try simp only [Act.put, List.setIfInBounds_toArray, List.set_cons_zero, List.set_cons_succ]
  refine wpAnyH_take (i := 1) (oi := { dst := some 20, op := Op.load 3 (Operand.tmp 19), type := 3, pos := "ref.go:212", after := #[{ on := 0, ground := Ground.data }], guard := none }) (v := ?_) rfl (by kernel_rfl) (by kernel_rfl) (by kernel_rfl) (fun _ _ _ h => h) (Or.inl ⟨by rfl, ?_⟩) (by assumption) ?_
  rotate_left
  · (intro w hSw; (try dsimp only at hSw); go_simp; first | done | with_reducible rfl)
  try simp only [Act.put, List.setIfInBounds_toArray, List.set_cons_zero, List.set_cons_succ]
  refine wpAnyH_take (i := 2) (oi := { dst := some 21, op := Op.move (Operand.tmp 1), type := 3, pos := "ref.go:212", after := #[], guard := none }) (v := ?_) rfl (by kernel_rfl) (by kernel_rfl) (by kernel_rfl) (fun _ _ _ h => h) (Or.inl ⟨by rfl, ?_⟩) (by assumption) ?_
  rotate_left
  · (intro w hSw; (try dsimp only at hSw); go_simp; first | done | with_reducible rfl)
  try simp only [Act.put, List.setIfInBounds_toArray, List.set_cons_zero, List.set_cons_succ]
  refine wpAnyH_take (i := 3) (oi := { dst := some 22, op := Op.binOp BinOp.add 3 (Operand.tmp 20) (Operand.tmp 21) 3, type := 3, pos := "ref.go:212", after := #[{ on := 1, ground := Ground.data }, { on := 2, ground := Ground.data }], guard := none }) (v := ?_) rfl (by kernel_rfl) (by kernel_rfl) (by kernel_rfl) (fun _ _ _ h => h) (Or.inl ⟨by rfl, ?_⟩) (by assumption) ?_
  rotate_left
  · (intro w hSw; (try dsimp only at hSw); go_simp; first | done | with_reducible rfl)
  try simp only [Act.put, List.setIfInBounds_toArray, List.set_cons_zero, List.set_cons_succ]
  refine wpAnyH_take (i := 4) (oi := { dst := some 23, op := Op.fieldAddr 23 (Operand.tmp 2) 1, type := 0, pos := "ref.go:212", after := #[], guard := none }) (v := ?_) rfl (by kernel_rfl) (by kernel_rfl) (by kernel_rfl) (fun _ _ _ h => h) (Or.inl ⟨by rfl, ?_⟩) (by assumption) ?_
  rotate_left
  · (intro w hSw; (try dsimp only at hSw); go_simp; first | done | with_reducible rfl)
  try simp only [Act.put, List.setIfInBounds_toArray, List.set_cons_zero, List.set_cons_succ]
  refine wpAnyH_take (i := 5) (oi := { dst := some 24, op := Op.load 3 (Operand.tmp 23), type := 3, pos := "ref.go:212", after := #[{ on := 4, ground := Ground.data }], guard := none }) (v := ?_) rfl (by kernel_rfl) (by kernel_rfl) (by kernel_rfl) (fun _ _ _ h => h) (Or.inl ⟨by rfl, ?_⟩) (by assumption) ?_
  rotate_left
  · (intro w hSw; (try dsimp only at hSw); go_simp; first | done | with_reducible rfl)
  try simp only [Act.put, List.setIfInBounds_toArray, List.set_cons_zero, List.set_cons_succ]
  refine wpAnyH_take (i := 6) (oi := { dst := some 25, op := Op.move (Operand.tmp 1), type := 3, pos := "ref.go:212", after := #[], guard := none }) (v := ?_) rfl (by kernel_rfl) (by kernel_rfl) (by kernel_rfl) (fun _ _ _ h => h) (Or.inl ⟨by rfl, ?_⟩) (by assumption) ?_
  rotate_left
  · (intro w hSw; (try dsimp only at hSw); go_simp; first | done | with_reducible rfl)
  try simp only [Act.put, List.setIfInBounds_toArray, List.set_cons_zero, List.set_cons_succ]
  refine wpAnyH_take (i := 7) (oi := { dst := some 26, op := Op.binOp BinOp.add 3 (Operand.tmp 24) (Operand.tmp 25) 3, type := 3, pos := "ref.go:212", after := #[{ on := 5, ground := Ground.data }, { on := 6, ground := Ground.data }], guard := none }) (v := ?_) rfl (by kernel_rfl) (by kernel_rfl) (by kernel_rfl) (fun _ _ _ h => h) (Or.inl ⟨by rfl, ?_⟩) (by assumption) ?_
  rotate_left
  · (intro w hSw; (try dsimp only at hSw); go_simp; first | done | with_reducible rfl)
  try simp only [Act.put, List.setIfInBounds_toArray, List.set_cons_zero, List.set_cons_succ]
  refine wpAnyH_take (i := 8) (oi := { dst := some 27, op := Op.load 23 (Operand.tmp 2), type := 23, pos := "ref.go:212", after := #[], guard := none }) (v := ?_) rfl (by kernel_rfl) (by kernel_rfl) (by kernel_rfl) (fun _ _ _ h => h) (Or.inl ⟨by rfl, ?_⟩) (by assumption) ?_
  rotate_left
  · (intro w hSw; (try dsimp only at hSw); go_simp; first | done | with_reducible rfl)
  try simp only [Act.put, List.setIfInBounds_toArray, List.set_cons_zero, List.set_cons_succ]
  refine wpAnyH_take (i := 10) (oi := { dst := some 29, op := Op.fieldAddr 23 (Operand.tmp 2) 2, type := 0, pos := "ref.go:212", after := #[], guard := none }) (v := ?_) rfl (by kernel_rfl) (by kernel_rfl) (by kernel_rfl) (fun _ _ _ h => h) (Or.inl ⟨by rfl, ?_⟩) (by assumption) ?_
  rotate_left
  · (intro w hSw; (try dsimp only at hSw); go_simp; first | done | with_reducible rfl)
  try simp only [Act.put, List.setIfInBounds_toArray, List.set_cons_zero, List.set_cons_succ]
  refine wpAnyH_take (i := 11) (oi := { dst := some 30, op := Op.load 3 (Operand.tmp 29), type := 3, pos := "ref.go:212", after := #[{ on := 10, ground := Ground.data }], guard := none }) (v := ?_) rfl (by kernel_rfl) (by kernel_rfl) (by kernel_rfl) (fun _ _ _ h => h) (Or.inl ⟨by rfl, ?_⟩) (by assumption) ?_
  rotate_left
  · (intro w hSw; (try dsimp only at hSw); go_simp; first | done | with_reducible rfl)
  try simp only [Act.put, List.setIfInBounds_toArray, List.set_cons_zero, List.set_cons_succ]
  refine wpAnyH_take (i := 12) (oi := { dst := some 31, op := Op.binOp BinOp.lss 3 (Operand.tmp 30) (Operand.const (Value.int IntKind.i64 0)) 3, type := 4, pos := "ref.go:212", after := #[{ on := 11, ground := Ground.data }], guard := none }) (v := ?_) rfl (by kernel_rfl) (by kernel_rfl) (by kernel_rfl) (fun _ _ _ h => h) (Or.inl ⟨by rfl, ?_⟩) (by assumption) ?_
  rotate_left
  · (intro w hSw; (try dsimp only at hSw); go_simp; first | done | with_reducible rfl)
  try simp only [Act.put, List.setIfInBounds_toArray, List.set_cons_zero, List.set_cons_succ]
  refine wpAnyH_ready (rs := [9]) (by kernel_rfl) (by simp) ?_
  refine AllReadyH.cons (o := { dst := some 28, op := Op.call { callee := Callee.value (Operand.func 112), args := #[Operand.tmp 27], argTypes := #[23] }, type := 3, pos := "ref.go:212", after := #[{ on := 8, ground := Ground.data }], guard := none }) rfl (fun K hK => ?_) AllReadyH.nil
  go_simp
  refine (refStep_any _ _ _ _ (by omega) (by omega)).mono ?_
  rintro e w3 ⟨rfl, hb3⟩
  obtain ⟨hc3, hf3⟩ := bcell hb3
  have s3 : w2.heap.size ≤ w3.heap.size := hb3.size
  have G3 := Lib.hid (keepF (show Below w2.heap.size w2 w3 from ⟨hb3.os, hb3.tape, hb3.output, hb3.size, hb3.block⟩) (by omega) G2.out.1 G2.out.2)
  go_wp2_with fail
  refine hK.out _ _ ?_ (fun hHeld9 => ?_)
  · (obtain ⟨q0, q1, q2⟩ := hHeld; exact ⟨(hb3.cell (p := ⟨w.heap.size, 0, none⟩) (by simp; omega)).trans q0, (hb3.cell (p := ⟨w.heap.size, 1, none⟩) (by simp; omega)).trans q1, (hb3.cell (p := ⟨w.heap.size, 2, none⟩) (by simp; omega)).trans q2⟩)
  clear hK K hHeld
  have hHeld := hHeld9
  clear hHeld9
  try simp only [Act.put, List.setIfInBounds_toArray, List.set_cons_zero, List.set_cons_succ]
  refine wpAnyH_ready (rs := [13]) (by kernel_rfl) (by simp) ?_
  refine AllReadyH.cons (o := { dst := some 32, op := Op.call { callee := Callee.value (Operand.func 122), args := #[Operand.tmp 22, Operand.tmp 26, Operand.tmp 28, Operand.tmp 31], argTypes := #[3, 3, 3, 4] }, type := 25, pos := "ref.go:212", after := #[{ on := 3, ground := Ground.data }, { on := 7, ground := Ground.data }, { on := 9, ground := Ground.data }, { on := 12, ground := Ground.data }, { on := 9, ground := Ground.chain }], guard := none }) rfl (fun K hK => ?_) AllReadyH.nil
  go_simp
  refine (hm.out _).mono ?_
  rintro e w4 ⟨rfl, hb4⟩
  obtain ⟨hc4, hf4⟩ := bcell hb4
  have s4 : w3.heap.size ≤ w4.heap.size := hb4.size
  have G4 := Lib.hid (keepF (show Below w3.heap.size w3 w4 from ⟨hb4.os, hb4.tape, hb4.output, hb4.size, hb4.block⟩) (by omega) G3.out.1 G3.out.2)
  obtain ⟨⟨g0, g1, g2⟩, f0, f1, f2⟩ := G4.out
  go_wp2_with fail
  refine hK.out _ _ ?_ (fun hHeld13 => ?_)
  · (obtain ⟨q0, q1, q2⟩ := hHeld; exact ⟨(hb4.cell (p := ⟨w.heap.size, 0, none⟩) (by simp; omega)).trans q0, (hb4.cell (p := ⟨w.heap.size, 1, none⟩) (by simp; omega)).trans q1, (hb4.cell (p := ⟨w.heap.size, 2, none⟩) (by simp; omega)).trans q2⟩)
  clear hK K hHeld
  have hHeld := hHeld13
  clear hHeld13
  try simp only [Act.put, List.setIfInBounds_toArray, List.set_cons_zero, List.set_cons_succ]
  refine wpAnyH_take (i := 14) (oi := { dst := some 33, op := Op.extract (Operand.tmp 32) 0, type := 23, pos := "ref.go:212", after := #[{ on := 13, ground := Ground.data }], guard := none }) (v := ?_) rfl (by kernel_rfl) (by kernel_rfl) (by kernel_rfl) (fun _ _ _ h => h) (Or.inl ⟨by rfl, ?_⟩) (by assumption) ?_
  rotate_left
  · (intro w hSw; (try dsimp only at hSw); go_simp; first | done | with_reducible rfl)
  try simp only [Act.put, List.setIfInBounds_toArray, List.set_cons_zero, List.set_cons_succ]
  refine wpAnyH_take (i := 15) (oi := { dst := some 34, op := Op.extract (Operand.tmp 32) 1, type := 24, pos := "ref.go:212", after := #[{ on := 13, ground := Ground.data }], guard := none }) (v := ?_) rfl (by kernel_rfl) (by kernel_rfl) (by kernel_rfl) (fun _ _ _ h => h) (Or.inl ⟨by rfl, ?_⟩) (by assumption) ?_
  rotate_left
  · (intro w hSw; (try dsimp only at hSw); go_simp; first | done | with_reducible rfl)
  try simp only [Act.put, List.setIfInBounds_toArray, List.set_cons_zero, List.set_cons_succ]
  refine wpAnyH_ready (rs := [16]) (by kernel_rfl) (by simp) ?_
  refine AllReadyH.cons (o := { dst := none, op := Op.store 23 (Operand.tmp 4) (Operand.tmp 33), type := 0, pos := "ref.go:212", after := #[{ on := 14, ground := Ground.data }, { on := 13, ground := Ground.chain }, { on := 0, ground := Ground.phase }, { on := 1, ground := Ground.phase }, { on := 2, ground := Ground.phase }, { on := 3, ground := Ground.phase }, { on := 4, ground := Ground.phase }, { on := 5, ground := Ground.phase }, { on := 6, ground := Ground.phase }, { on := 7, ground := Ground.phase }, { on := 8, ground := Ground.phase }, { on := 9, ground := Ground.phase }, { on := 10, ground := Ground.phase }, { on := 11, ground := Ground.phase }, { on := 12, ground := Ground.phase }, { on := 13, ground := Ground.phase }, { on := 14, ground := Ground.phase }, { on := 15, ground := Ground.phase }], guard := none }) rfl (fun K hK => ?_) AllReadyH.nil
  go_simp
  refine hK.out _ _ ?_ (fun hHeld16 => ?_)
  · go_keep
  clear hK K hHeld
  have hHeld := hHeld16
  clear hHeld16
  try simp only [Act.put, List.setIfInBounds_toArray, List.set_cons_zero, List.set_cons_succ]
  refine wpAnyH_take (i := 17) (oi := { dst := some 5, op := Op.assign (Operand.tmp 34), type := 24, pos := "ref.go:212", after := #[{ on := 15, ground := Ground.data }, { on := 16, ground := Ground.chain }, { on := 0, ground := Ground.phase }, { on := 1, ground := Ground.phase }, { on := 2, ground := Ground.phase }, { on := 3, ground := Ground.phase }, { on := 4, ground := Ground.phase }, { on := 5, ground := Ground.phase }, { on := 6, ground := Ground.phase }, { on := 7, ground := Ground.phase }, { on := 8, ground := Ground.phase }, { on := 9, ground := Ground.phase }, { on := 10, ground := Ground.phase }, { on := 11, ground := Ground.phase }, { on := 12, ground := Ground.phase }, { on := 13, ground := Ground.phase }, { on := 14, ground := Ground.phase }, { on := 15, ground := Ground.phase }, { on := 16, ground := Ground.phase }], guard := none }) (v := ?_) rfl (by kernel_rfl) (by kernel_rfl) (by kernel_rfl) (fun _ _ _ h => h) (Or.inl ⟨by rfl, ?_⟩) (by assumption) ?_
  rotate_left
  · (intro w hSw; (try dsimp only at hSw); go_simp; first | done | with_reducible rfl)
  try simp only [Act.put, List.setIfInBounds_toArray, List.set_cons_zero, List.set_cons_succ]
  refine wpAnyH_done (by kernel_rfl) ?_ _
  have Wa := W2.out.drew.trans (hb3.mono (by simp; omega))
  have Wa := Wa.trans (hb4.mono (by omega))
  have W := Lib.hid Wa
  clear Wa hHeld hb3 hc3 hf3 hb4 hc4 hf4 W2
  go_wp2
  refine bodyPost_ret (v := (.tuple #[.agg #[.int .i64 a, .int .i64 b, .int .i64 c], .int .i64 e])) (by simp [results, Try.results36, go_sem, *]) rfl ⟨rfl, ?_⟩
  repeat (first | exact W.out | refine Below.setCell ?_ (by simp; try omega) _)
end Go.Proofs.Ytabgphlpdoockaa
