/-
  The walk of the law SpanByBy: it returns true for every range and all numbers, and no block that was there before has changed.
-/
import Derived.Test.YtdifilndpilboaaByC
import Derived.WalkKit
import Derived.Deep.RegionWith
import Derived.Deep.DeepCutAuto
import Derived.Deep.LoopGhost
import Derived.Deep.CutBlock
import Derived.WalkSpells
import Derived.WalkLawsBesides
import Derived.BigQuiet
import Derived.Deep.QuietTactic
import Derived.Deep.RegionHeld3
import Derived.Deep.DrawnRows
import Derived.Lib.Hide
namespace Go.Proofs.Ytdifilndpilboaa
open Go.RowKit

/-- what By returns of a right range -/
def byU (l h s n : Int) : R3 := if l ≤ h then byT l h s n else (1, 0, 1)
theorem nrm_le {lo hi st : Int} {dn : Bool} (c : lo ≤ hi) : (nrm lo hi st dn).1 ≤ (nrm lo hi st dn).2.1 := by
  unfold nrm nL nH; simp; rw [if_neg (by omega), if_neg (by omega)]; exact c
theorem byT_le (l h s n : Int) (hk : chk l h s = 0) (hle : l ≤ h) (n0 : ¬ n = 0) : (byT l h s n).1 ≤ (byT l h s n).2.1 := by
  have bA := chk_bounds hk
  have p : 1 ≤ magA s * magA n := by
    have : 1 ≤ magA n := by unfold magA; split <;> omega
    have := Int.mul_le_mul (show 1 ≤ magA s by omega) this (by omega) (by omega)
    omega
  have r0 := Int.emod_nonneg (h - l) (show magA s * magA n ≠ 0 by omega)
  have rle := (rem_bd (h - l) (magA s * magA n) (by omega) p).2
  refine nrm_le ?_
  unfold byLo byHi
  split <;> omega
theorem byU_ret (l h s n : Int) (hk : chk l h s = 0) (n0 : ¬ n = 0) (n1 : -1000000 ≤ n) (n2 : n ≤ 1000000) :
    Ret4 28 l h s n (byU l h s n).1 (byU l h s n).2.1 (byU l h s n).2.2 0 := by
  unfold byU
  by_cases c : l ≤ h
  · rw [if_pos c]; exact by_ret l h s n hk c n0 n1 n2
  · obtain ⟨rfl, rfl, rfl⟩ := le_of_chk hk c
    rw [if_neg c]; exact byEmpty n n0 n1 n2
theorem byU_chk (l h s n : Int) (hk : chk l h s = 0) (n0 : ¬ n = 0) : chk (byU l h s n).1 (byU l h s n).2.1 (byU l h s n).2.2 = 0 := by
  unfold byU
  by_cases c : l ≤ h
  · rw [if_pos c]; exact byT_chk l h s n hk c n0
  · rw [if_neg c]; decide
theorem byU_by (l h s m n : Int) (hk : chk l h s = 0) (hm : 1 ≤ m) (hn : 1 ≤ n) : byU (byU l h s m).1 (byU l h s m).2.1 (byU l h s m).2.2 n = byU l h s (m * n) := by
  by_cases c : l ≤ h
  · have e : ∀ k, byU l h s k = byT l h s k := fun k => if_pos c
    rw [e, e]
    have le := byT_le l h s m hk c (by omega)
    unfold byU
    rw [if_pos le]
    exact by_by l h s m n hk c hm hn
  · have e : ∀ k, byU l h s k = (1, 0, 1) := fun k => if_neg c
    rw [e, e]; rfl
theorem byU_back (l h s : Int) (hk : chk l h s = 0) : byU (byU l h s (-1)).1 (byU l h s (-1)).2.1 (byU l h s (-1)).2.2 (-1) = (l, h, s) := by
  by_cases c : l ≤ h
  · have e : byU l h s (-1) = byT l h s (-1) := if_pos c
    rw [e]
    have le := byT_le l h s (-1) hk c (by omega)
    unfold byU
    rw [if_pos le]
    exact by_back l h s hk c
  · obtain ⟨rfl, rfl, rfl⟩ := le_of_chk hk c
    have e : byU 1 0 1 (-1) = (1, 0, 1) := if_neg c
    rw [e]; exact e
/-- the law's boxes that are read to the end: the range, and its first numbers -/
structure BSt (w : World) (l h s : Int) (fb : Nat) (x1 y1 z1 : Int) (w' : World) : Prop where
  below : Below w.heap.size w w'
  r : B3 w.heap.size (.int .i64 l) (.int .i64 h) (.int .i64 s) w'
  f : B3 fb (.int .i64 x1) (.int .i64 y1) (.int .i64 z1) w'
theorem BSt.keep {w : World} {l h s : Int} {fb : Nat} {x1 y1 z1 : Int} {w1 w2 : World} (b : BSt w l h s fb x1 y1 z1 w1) (hb : Below w1.heap.size w1 w2) : BSt w l h s fb x1 y1 z1 w2 :=
  ⟨b.below.trans (hb.mono b.below.size), b.r.keep hb, b.f.keep hb⟩
theorem BSt.store {w : World} {l h s : Int} {fb : Nat} {x1 y1 z1 : Int} {w1 : World} (b : BSt w l h s fb x1 y1 z1 w1) {g : Nat} (k1 : w.heap.size < g) (k2 : fb < g) (p q r : Value) : BSt w l h s fb x1 y1 z1 (set3 w1 g p q r) :=
  ⟨b.below.trans (set3s_below (by omega) _ _ _), b.r.other (by omega) _ _ _, b.f.other (by omega) _ _ _⟩
def BSp (w : World) (l h s : Int) (fb : Nat) (x1 y1 z1 : Int) (w' : World) : Prop := w'.cell? ⟨w.heap.size, 0, none⟩ = some (.int .i64 l) ∧ w'.cell? ⟨w.heap.size, 1, none⟩ = some (.int .i64 h) ∧ w'.cell? ⟨w.heap.size, 2, none⟩ = some (.int .i64 s) ∧ BSt w l h s fb x1 y1 z1 w'
theorem BSt.all {w : World} {l h s : Int} {fb : Nat} {x1 y1 z1 : Int} {w1 : World} (b : BSt w l h s fb x1 y1 z1 w1) : BSp w l h s fb x1 y1 z1 w1 := ⟨b.r.c0, b.r.c1, b.r.c2, b⟩

theorem mul_near (m n : Int) (m1 : -1000 ≤ m) (m2 : m ≤ 1000) (n1 : -1000 ≤ n) (n2 : n ≤ 1000) (m0 : ¬ m = 0) (n0 : ¬ n = 0) : -1000000 ≤ m * n ∧ m * n ≤ 1000000 ∧ ¬ m * n = 0 := by
  have h1 := Int.natAbs_mul m n
  have h2 : m.natAbs * n.natAbs ≤ 1000 * 1000 := Nat.mul_le_mul (by omega) (by omega)
  exact ⟨by omega, by omega, Int.mul_ne_zero m0 n0⟩
set_option maxRecDepth 100000 in
set_option maxHeartbeats 12800000 in
theorem spanByBy_walk (l h s m n k : Int) (w : World) (hl : I64 l) (hh : I64 h) (hs : I64 s) (hm : -32768 ≤ m ∧ m ≤ 32767) (hn : -32768 ≤ n ∧ n ≤ 32767) (hk : 0 ≤ k ∧ k ≤ 255) :
    Calls Try.prog 10 #[.agg #[.int .i64 l, .int .i64 h, .int .i64 s], .int .i16 m, .int .i16 n, .int .u8 k] w fun e w' => e = .returned (.bool true) ∧ Below w.heap.size w w' := by
  go_enter Try.func10, Try.ntmps10
  go_wp2_with fail
  refine (small_any _ _ _ _ hl hh hs).mono ?_
  rintro e w1 ⟨rfl, hb1⟩
  have R1 := res1b hb1
  have W1 := Lib.hid R1.1
  have FR := Lib.hid R1.2
  clear hb1 R1
  cases hq : smB l h s
  · go_wp2_with fail
    refine (awake_any _).mono ?_
    rintro e w2 ⟨rfl, hb2⟩
    have W2 := below_st W1 hb2
    clear hb2
    go_wp2
    go_ret
    exact ⟨rfl, W2.out⟩
  · have hc : chk l h s = 0 ∧ siz l h s ≤ 400 := by unfold smB at hq; simpa using hq
    have HC := Lib.hid hc.1
    have HS4 := Lib.hid hc.2
    clear hc hq
    by_cases q0 : m = 0
    · subst q0
      go_wp2_with fail
      refine (awake_any _).mono ?_
      rintro e w2 ⟨rfl, hb2⟩
      have W2 := below_st W1 hb2
      clear hb2
      go_wp2
      go_ret
      exact ⟨rfl, W2.out⟩
    · have q0' : (m == 0) = false := by simp; omega
      by_cases q1 : n = 0
      · subst q1
        go_wp2_with fail
        refine (awake_any _).mono ?_
        rintro e w2 ⟨rfl, hb2⟩
        have W2 := below_st W1 hb2
        clear hb2
        go_wp2
        go_ret
        exact ⟨rfl, W2.out⟩
      · have q1' : (n == 0) = false := by simp; omega
        by_cases q2 : 1000 < m
        · go_wp2_with fail
          refine (awake_any _).mono ?_
          rintro e w2 ⟨rfl, hb2⟩
          have W2 := below_st W1 hb2
          clear hb2
          go_wp2
          go_ret
          exact ⟨rfl, W2.out⟩
        · have q2' : decide (1000 < m) = false := by simp; omega
          by_cases q3 : m < -1000
          · go_wp2_with fail
            refine (awake_any _).mono ?_
            rintro e w2 ⟨rfl, hb2⟩
            have W2 := below_st W1 hb2
            clear hb2
            go_wp2
            go_ret
            exact ⟨rfl, W2.out⟩
          · have q3' : decide (m < -1000) = false := by simp; omega
            by_cases q4 : 1000 < n
            · go_wp2_with fail
              refine (awake_any _).mono ?_
              rintro e w2 ⟨rfl, hb2⟩
              have W2 := below_st W1 hb2
              clear hb2
              go_wp2
              go_ret
              exact ⟨rfl, W2.out⟩
            · have q4' : decide (1000 < n) = false := by simp; omega
              by_cases q5 : n < -1000
              · go_wp2_with fail
                refine (awake_any _).mono ?_
                rintro e w2 ⟨rfl, hb2⟩
                have W2 := below_st W1 hb2
                clear hb2
                go_wp2
                go_ret
                exact ⟨rfl, W2.out⟩
              · have q5' : decide (n < -1000) = false := by simp; omega
                have sb := siz_bdn HC.out
                have bA := chk_bounds HC.out
                have mn : -1000000 ≤ m * n ∧ m * n ≤ 1000000 ∧ ¬ m * n = 0 := mul_near m n (by omega) (by omega) (by omega) (by omega) q0 q1
                have jm : IntKind.i64.wrap m = m := IntWalk.i64_in _ (by omega)
                have jn : IntKind.i64.wrap n = n := IntWalk.i64_in _ (by omega)
                have jk : IntKind.i64.wrap k = k := IntWalk.i64_in _ (by omega)
                have jmn : IntKind.i64.wrap (m * n) = m * n := IntWalk.i64_in _ (by omega)
                have r1 := Lib.hid (byU_ret l h s m HC.out q0 (by omega) (by omega))
                have k1 := Lib.hid (byU_chk l h s m HC.out q0)
                have BB := Lib.hid (byU_by l h s m n HC.out)
                have r3 := Lib.hid (byU_ret l h s (m * n) HC.out mn.2.2 mn.1 mn.2.1)
                have r4 := Lib.hid (byU_ret l h s (-1) HC.out (by omega) (by omega) (by omega))
                have k4 := Lib.hid (byU_chk l h s (-1) HC.out (by omega))
                have BK := Lib.hid (byU_back l h s HC.out)
                generalize byU l h s m = A at r1 k1 BB
                generalize byU l h s (m * n) = C at r3 BB
                generalize byU l h s (-1) = D at r4 k4 BK
                obtain ⟨a1, a2, a3⟩ := A
                obtain ⟨d1, d2, d3⟩ := D
                have r2 := Lib.hid (byU_ret a1 a2 a3 n k1.out q1 (by omega) (by omega))
                have r5 := Lib.hid (byU_ret d1 d2 d3 (-1) k4.out (by omega) (by omega) (by omega))
                have BB' : Hid (1 ≤ m → 1 ≤ n → byU a1 a2 a3 n = C) := Lib.hid (fun x y => BB.out x y)
                have BK' : Hid (byU d1 d2 d3 (-1) = (l, h, s)) := Lib.hid BK.out
                rw [BK'.out] at r5
                clear BB BK BK'
                generalize byU a1 a2 a3 n = B at r2 BB'
                obtain ⟨b1, b2, b3⟩ := B
                obtain ⟨c1, c2, c3⟩ := C
                dsimp only at r1 r2 r3 r4 r5
                have x0 := FR.out.c0
                have x1 := FR.out.c1
                have x2 := FR.out.c2
                have zR := FR.out.size
                go_wp2_with fail
                refine (r1.out _).mono ?_
                rintro e w2 ⟨rfl, hb2⟩
                have W2 := below_st W1 hb2
                have FR := Lib.hid (FR.out.keep hb2)
                clear hb2 W1 x0 x1 x2 zR
                go_wp2_with fail
                refine (r2.out _).mono ?_
                rintro e w3 ⟨rfl, hb3⟩
                have W3 := below_al W2 hb3
                have FR := Lib.hid ((FR.out.keep (below_new _ _)).keep hb3)
                clear hb3 W2
                have x0 := FR.out.c0
                have x1 := FR.out.c1
                have x2 := FR.out.c2
                have zR := FR.out.size
                go_wp2_with fail
                refine (r3.out _).mono ?_
                rintro e w4 ⟨rfl, hb4⟩
                have W4 := below_al W3 hb4
                have FR := Lib.hid ((FR.out.keep (below_new _ _)).keep hb4)
                have FB := Lib.hid ((B3.new (.int .i64 b1) (.int .i64 b2) (.int .i64 b3) 23 w3).keep hb4)
                clear hb4 W3 x0 x1 x2 zR
                go_upto_region 8 with fail
                go_cut [91] (fun s wx => s = .bool false ∧ wx = w4.alloc (.cells #[.int .i64 c1, .int .i64 c2, .int .i64 c3] 23))
                case first =>
                  have xb0 := FB.out.c0
                  have xb1 := FB.out.c1
                  have xb2 := FB.out.c2
                  have zB := FB.out.size
                  by_cases p1 : 0 < m
                  · by_cases p2 : 0 < n
                    · have e := BB'.out (by omega) (by omega)
                      simp only [Prod.mk.injEq] at e
                      obtain ⟨rfl, rfl, rfl⟩ := e
                      have nq := neq_range b1 b2 b3 b1 b2 b3
                      rw [reqB_self] at nq
                      go_wp2_with fail
                      go_meet
                      exact ⟨rfl, rfl⟩
                    · go_wp2_with fail
                      go_meet
                      exact ⟨rfl, rfl⟩
                  · go_wp2_with fail
                    go_meet
                    exact ⟨rfl, rfl⟩
                case rest =>
                  obtain ⟨rfl, rfl⟩ := hcut
                  clear FB BB'
                  have x0 := FR.out.c0
                  have x1 := FR.out.c1
                  have x2 := FR.out.c2
                  have zR := FR.out.size
                  go_wp2_with fail
                  refine (r4.out _).mono ?_
                  rintro e w5 ⟨rfl, hb5⟩
                  have W5 := below_al W4 hb5
                  have FR := Lib.hid ((FR.out.keep (below_new _ _)).keep hb5)
                  clear hb5 W4 x0 x1 x2 zR
                  go_wp2_with fail
                  refine (r5.out _).mono ?_
                  rintro e w6 ⟨rfl, hb6⟩
                  have W6 := below_al W5 hb6
                  have FR := Lib.hid ((FR.out.keep (below_new _ _)).keep hb6)
                  clear hb6 W5
                  have x0 := FR.out.c0
                  have x1 := FR.out.c1
                  have x2 := FR.out.c2
                  have zR := FR.out.size
                  have nq := neq_range l h s l h s
                  rw [reqB_self] at nq
                  go_wp2_with fail
                  refine (Size_any _ _ _ _ hl hh hs).mono ?_
                  rintro e w7 ⟨rfl, hb7⟩
                  have W7 := below_al W6 hb7
                  have FR := Lib.hid ((FR.out.keep (below_new _ _)).keep hb7)
                  clear hb7 W6 x0 x1 x2 zR nq
                  obtain ⟨i, jr, hi⟩ : ∃ i : Nat, k.tmod (siz l h s + 1) = i ∧ (i : Int) ≤ siz l h s := by
                    have t0 := Int.emod_nonneg k (show siz l h s + 1 ≠ 0 by omega)
                    have t1 := Int.emod_lt_of_pos k (show 0 < siz l h s + 1 by omega)
                    exact ⟨(k % (siz l h s + 1)).toNat, by rw [Int.tmod_eq_emod_of_nonneg hk.1]; omega, by omega⟩
                  obtain ⟨c, hc⟩ : ∃ c : Nat, (i : Int) + c = siz l h s := ⟨(siz l h s - i).toNat, by omega⟩
                  obtain ⟨x1, y1, z1, cf, ck1, cz1, cn1⟩ := count_first l h s i HC.out hi
                  obtain ⟨x2, y2, z2, cl, ck2, cz2, cn2⟩ := count_last l h s i c HC.out hc
                  have cf := Lib.hid cf
                  have cl := Lib.hid cl
                  have ck1 := Lib.hid ck1
                  have ck2 := Lib.hid ck2
                  have cz1 := Lib.hid cz1
                  have cz2 := Lib.hid cz2
                  have CAT : Hid (numsL x1 y1 z1 ++ numsL x2 y2 z2 = numsL l h s) := Lib.hid (by rw [cn1, cn2]; exact nums_cat l h s i c hc)
                  have ln1 : Hid ((numsL x1 y1 z1).length = i) := Lib.hid (by rw [cn1, numsU_length])
                  have ln2 : Hid ((numsL x2 y2 z2).length = c) := Lib.hid (by rw [cn2]; simp)
                  have js : IntKind.i64.wrap (siz l h s + 1) = siz l h s + 1 := IntWalk.i64_in _ (by omega)
                  have ji : IntKind.i64.wrap (i : Int) = (i : Int) := IntWalk.i64_in _ (by have := HS4.out; omega)
                  have sz1 : ¬ siz l h s + 1 = 0 := by omega
                  have jv : IntKind.i64.wrap ((i : Int) - siz l h s) = (i : Int) - siz l h s := IntWalk.i64_in _ (by have := HS4.out; omega)
                  have HCC := Lib.hid hc
                  clear cn1 cn2 hc
                  have xr0 := FR.out.c0
                  have xr1 := FR.out.c1
                  have xr2 := FR.out.c2
                  have zR := FR.out.size
                  go_wp2_with fail
                  refine (cf.out _).mono ?_
                  rintro e w8 ⟨rfl, hb8⟩
                  have W8 := below_st W7 hb8
                  have FR := Lib.hid (FR.out.keep hb8)
                  clear hb8 W7 xr0 xr1 xr2 zR
                  have S8 : Hid (BSt w l h s w8.heap.size x1 y1 z1 (w8.alloc (.cells #[.int .i64 x1, .int .i64 y1, .int .i64 z1] 23))) := Lib.hid ⟨W8.out.trans ((below_new _ _).mono W8.out.size), FR.out.keep (below_new _ _), B3.new _ _ _ _ _⟩
                  go_upto_region 16 with fail
                  generalize w8.heap.size = fb at *
                  generalize w8.alloc (.cells #[.int .i64 x1, .int .i64 y1, .int .i64 z1] 23) = w9 at *
                  have HS : BSp w l h s fb x1 y1 z1 w9.drew := (S8.out.keep (show Below w9.heap.size w9 w9.drew from (Below.refl _ _).drew)).all
                  clear W8 FR
                  go_cut [18, 13] (fun s18 s13 wx => ∃ g : Nat, s18 = .pointer (some ⟨g, 0, none⟩) ∧ s13 = .int .i64 0 ∧ B3 g (.int .i64 x2) (.int .i64 y2) (.int .i64 z2) wx ∧ BSt w l h s fb x1 y1 z1 wx)
                  case first =>
                    refine wp_region_held_drew (S := (fun w' => w'.cell? ⟨w.heap.size, 0, none⟩ = some (.int .i64 l) ∧ w'.cell? ⟨w.heap.size, 1, none⟩ = some (.int .i64 h) ∧ w'.cell? ⟨w.heap.size, 2, none⟩ = some (.int .i64 s) ∧ BSt w l h s fb x1 y1 z1 w')) (by kernel_rfl) HS (fun hHeld => ?_)
                    obtain ⟨v0, hv0⟩ : ∃ v0, v0 = w9.drew := ⟨_, rfl⟩
                    rw [← hv0] at hHeld ⊢
                    clear hv0
                    refine wpAnyH_take (i := 0) (oi := { dst := some 126, op := Op.load 23 (Operand.tmp 4), type := 23, pos := "outright.go:168", after := #[], guard := none }) (v := ?_) rfl (by kernel_rfl) (by kernel_rfl) (by kernel_rfl) (fun _ _ _ h => h) (Or.inl ⟨by rfl, ?_⟩) (by assumption) ?_
                    rotate_left
                    · (intro w hSw; (try dsimp only at hSw); go_simp; first | done | with_reducible rfl)
                    try simp only [Act.put, List.setIfInBounds_toArray, List.set_cons_zero, List.set_cons_succ]
                    refine wpAnyH_take (i := 1) (oi := { dst := some 127, op := Op.move (Operand.tmp 16), type := 3, pos := "outright.go:168", after := #[], guard := none }) (v := ?_) rfl (by kernel_rfl) (by kernel_rfl) (by kernel_rfl) (fun _ _ _ h => h) (Or.inl ⟨by rfl, ?_⟩) (by assumption) ?_
                    rotate_left
                    · (intro w hSw; (try dsimp only at hSw); go_simp; first | done | with_reducible rfl)
                    try simp only [Act.put, List.setIfInBounds_toArray, List.set_cons_zero, List.set_cons_succ]
                    refine wpAnyH_take (i := 2) (oi := { dst := some 128, op := Op.load 23 (Operand.tmp 4), type := 23, pos := "outright.go:168", after := #[], guard := none }) (v := ?_) rfl (by kernel_rfl) (by kernel_rfl) (by kernel_rfl) (fun _ _ _ h => h) (Or.inl ⟨by rfl, ?_⟩) (by assumption) ?_
                    rotate_left
                    · (intro w hSw; (try dsimp only at hSw); go_simp; first | done | with_reducible rfl)
                    try simp only [Act.put, List.setIfInBounds_toArray, List.set_cons_zero, List.set_cons_succ]
                    refine wpAnyH_ready (rs := [3, 9]) (by kernel_rfl) (by simp) ?_
                    refine AllReadyH.cons (o := { dst := some 129, op := Op.call { callee := Callee.value (Operand.func 23), args := #[Operand.tmp 128], argTypes := #[23] }, type := 3, pos := "outright.go:168", after := #[{ on := 2, ground := Ground.data }], guard := none }) rfl (fun K hK => ?_) ?_
                    · go_simp
                      refine (Size_any _ _ _ _ hl hh hs).mono ?_
                      rintro e v1 ⟨rfl, hb⟩
                      have hb : Below v0.heap.size v0 v1 := ⟨hb.os, hb.tape, hb.output, hb.size, hb.block⟩
                      have hS := BSt.all (hHeld.2.2.2.keep hb)
                      go_wp2_with fail
                      refine hK.out _ _ hS (fun hHeld => ?_)
                      clear hK K hb hHeld
                      have hHeld := hS
                      clear hS
                      try simp only [Act.put, List.setIfInBounds_toArray, List.set_cons_zero, List.set_cons_succ]
                      refine wpAnyH_take (i := 4) (oi := { dst := some 130, op := Op.binOp BinOp.sub 3 (Operand.tmp 127) (Operand.tmp 129) 3, type := 3, pos := "outright.go:168", after := #[{ on := 1, ground := Ground.data }, { on := 3, ground := Ground.data }], guard := none }) (v := ?_) rfl (by kernel_rfl) (by kernel_rfl) (by kernel_rfl) (fun _ _ _ h => h) (Or.inl ⟨by rfl, ?_⟩) (by assumption) ?_
                      rotate_left
                      · (intro w hSw; (try dsimp only at hSw); go_simp; first | done | with_reducible rfl)
                      try simp only [Act.put, List.setIfInBounds_toArray, List.set_cons_zero, List.set_cons_succ]
                      refine wpAnyH_ready (rs := [5, 9]) (by kernel_rfl) (by simp) ?_
                      refine AllReadyH.cons (o := { dst := some 131, op := Op.call { callee := Callee.value (Operand.func 30), args := #[Operand.tmp 126, Operand.tmp 130], argTypes := #[23, 3] }, type := 25, pos := "outright.go:168", after := #[{ on := 0, ground := Ground.data }, { on := 4, ground := Ground.data }, { on := 3, ground := Ground.chain }], guard := none }) rfl (fun K hK => ?_) ?_
                      · go_simp
                        refine (cl.out _).mono ?_
                        rintro e v2 ⟨rfl, hb⟩
                        have hb : Below v1.heap.size v1 v2 := ⟨hb.os, hb.tape, hb.output, hb.size, hb.block⟩
                        have hS := BSt.all (hHeld.2.2.2.keep hb)
                        go_wp2_with fail
                        refine hK.out _ _ hS (fun hHeld => ?_)
                        clear hK K hb hHeld
                        have hHeld := hS
                        clear hS
                        try simp only [Act.put, List.setIfInBounds_toArray, List.set_cons_zero, List.set_cons_succ]
                        refine wpAnyH_take (i := 6) (oi := { dst := some 125, op := Op.move (Operand.tmp 131), type := 25, pos := "outright.go:168", after := #[{ on := 5, ground := Ground.data }], guard := none }) (v := ?_) rfl (by kernel_rfl) (by kernel_rfl) (by kernel_rfl) (fun _ _ _ h => h) (Or.inl ⟨by rfl, ?_⟩) (by assumption) ?_
                        rotate_left
                        · (intro w hSw; (try dsimp only at hSw); go_simp; first | done | with_reducible rfl)
                        try simp only [Act.put, List.setIfInBounds_toArray, List.set_cons_zero, List.set_cons_succ]
                        refine wpAnyH_take (i := 7) (oi := { dst := some 132, op := Op.extract (Operand.tmp 125) 0, type := 23, pos := "outright.go:168", after := #[{ on := 6, ground := Ground.data }], guard := none }) (v := ?_) rfl (by kernel_rfl) (by kernel_rfl) (by kernel_rfl) (fun _ _ _ h => h) (Or.inl ⟨by rfl, ?_⟩) (by assumption) ?_
                        rotate_left
                        · (intro w hSw; (try dsimp only at hSw); go_simp; first | done | with_reducible rfl)
                        try simp only [Act.put, List.setIfInBounds_toArray, List.set_cons_zero, List.set_cons_succ]
                        refine wpAnyH_take (i := 8) (oi := { dst := some 133, op := Op.extract (Operand.tmp 125) 1, type := 24, pos := "outright.go:168", after := #[{ on := 6, ground := Ground.data }, { on := 10, ground := Ground.gcOnly Departure.lateStores }], guard := none }) (v := ?_) rfl (by kernel_rfl) (by kernel_rfl) (by kernel_rfl) (fun _ _ _ h => h) (Or.inl ⟨by rfl, ?_⟩) (by assumption) ?_
                        rotate_left
                        · (intro w hSw; (try dsimp only at hSw); go_simp; first | done | with_reducible rfl)
                        try simp only [Act.put, List.setIfInBounds_toArray, List.set_cons_zero, List.set_cons_succ]
                        refine wpAnyH_ready (rs := [9]) (by kernel_rfl) (by simp) ?_
                        refine AllReadyH.cons (o := { dst := some 18, op := Op.alloc 23, type := 0, pos := "outright.go:168", after := #[], guard := none }) rfl (fun K hK => ?_) ?_
                        · go_simp
                          have hb := below_new v2 (.cells #[.int .i64 0, .int .i64 0, .int .i64 0] 23)
                          have BC := B3.new (.int .i64 0) (.int .i64 0) (.int .i64 0) 23 v2
                          have KC : w.heap.size < v2.heap.size ∧ fb < v2.heap.size := ⟨hHeld.2.2.2.r.size, hHeld.2.2.2.f.size⟩
                          have hS := BSt.all (hHeld.2.2.2.keep hb)
                          refine hK.out _ _ hS (fun hHeld => ?_)
                          clear hK K hb hHeld
                          generalize v2.alloc (.cells #[.int .i64 0, .int .i64 0, .int .i64 0] 23) = v3 at *
                          have hHeld := hS
                          clear hS
                          try simp only [Act.put, List.setIfInBounds_toArray, List.set_cons_zero, List.set_cons_succ]
                          refine wpAnyH_ready (rs := [10]) (by kernel_rfl) (by simp) ?_
                          refine AllReadyH.cons (o := { dst := none, op := Op.store 23 (Operand.tmp 18) (Operand.tmp 132), type := 0, pos := "outright.go:168", after := #[{ on := 9, ground := Ground.data }, { on := 7, ground := Ground.data }, { on := 5, ground := Ground.chain }, { on := 0, ground := Ground.phase }, { on := 1, ground := Ground.phase }, { on := 2, ground := Ground.phase }, { on := 3, ground := Ground.phase }, { on := 4, ground := Ground.phase }, { on := 5, ground := Ground.phase }, { on := 6, ground := Ground.phase }, { on := 7, ground := Ground.phase }, { on := 8, ground := Ground.textOnly Departure.lateStores }, { on := 9, ground := Ground.phase }], guard := none }) rfl (fun K hK => ?_) ?_
                          · have c0 := BC.c0
                            have c1 := BC.c1
                            have c2 := BC.c2
                            have f0 := BC.f0
                            have f1 := BC.f1
                            have f2 := BC.f2
                            go_simp
                            have hS := BSt.all (hHeld.2.2.2.store (g := v2.heap.size) (by omega) (by omega) (.int .i64 x2) (.int .i64 y2) (.int .i64 z2))
                            have BC := BC.set (.int .i64 x2) (.int .i64 y2) (.int .i64 z2)
                            refine hK.out _ _ hS (fun hHeld => ?_)
                            clear hK K c0 c1 c2 f0 f1 f2 hHeld
                            change wpAnyH _ _ _ _ _ _ _ _ (set3 v3 (v2.heap.size) (.int .i64 x2) (.int .i64 y2) (.int .i64 z2))
                            generalize set3 v3 (v2.heap.size) (.int .i64 x2) (.int .i64 y2) (.int .i64 z2) = v4 at *
                            have hHeld := hS
                            clear hS
                            try simp only [Act.put, List.setIfInBounds_toArray, List.set_cons_zero, List.set_cons_succ]
                            refine wpAnyH_take (i := 11) (oi := { dst := some 13, op := Op.assign (Operand.tmp 133), type := 24, pos := "outright.go:168", after := #[{ on := 8, ground := Ground.data }, { on := 10, ground := Ground.chain }, { on := 0, ground := Ground.phase }, { on := 1, ground := Ground.phase }, { on := 2, ground := Ground.phase }, { on := 3, ground := Ground.phase }, { on := 4, ground := Ground.phase }, { on := 5, ground := Ground.phase }, { on := 6, ground := Ground.phase }, { on := 7, ground := Ground.phase }, { on := 8, ground := Ground.phase }, { on := 9, ground := Ground.phase }, { on := 10, ground := Ground.phase }], guard := none }) (v := ?_) rfl (by kernel_rfl) (by kernel_rfl) (by kernel_rfl) (fun _ _ _ h => h) (Or.inl ⟨by rfl, ?_⟩) (by assumption) ?_
                            rotate_left
                            · (intro w hSw; (try dsimp only at hSw); go_simp; first | done | with_reducible rfl)
                            try simp only [Act.put, List.setIfInBounds_toArray, List.set_cons_zero, List.set_cons_succ]
                            refine wpAnyH_done (by kernel_rfl) ?_ _
                            go_wp2_with fail
                            go_meet
                            exact ⟨v2.heap.size, rfl, rfl, BC, hHeld.2.2.2⟩
                          exact AllReadyH.nil
                        exact AllReadyH.nil
                      refine AllReadyH.cons (o := { dst := some 18, op := Op.alloc 23, type := 0, pos := "outright.go:168", after := #[], guard := none }) rfl (fun K hK => ?_) ?_
                      · go_simp
                        have hb := below_new v1 (.cells #[.int .i64 0, .int .i64 0, .int .i64 0] 23)
                        have BC := B3.new (.int .i64 0) (.int .i64 0) (.int .i64 0) 23 v1
                        have KC : w.heap.size < v1.heap.size ∧ fb < v1.heap.size := ⟨hHeld.2.2.2.r.size, hHeld.2.2.2.f.size⟩
                        have hS := BSt.all (hHeld.2.2.2.keep hb)
                        refine hK.out _ _ hS (fun hHeld => ?_)
                        clear hK K hb hHeld
                        generalize v1.alloc (.cells #[.int .i64 0, .int .i64 0, .int .i64 0] 23) = v2 at *
                        have hHeld := hS
                        clear hS
                        try simp only [Act.put, List.setIfInBounds_toArray, List.set_cons_zero, List.set_cons_succ]
                        refine wpAnyH_ready (rs := [5]) (by kernel_rfl) (by simp) ?_
                        refine AllReadyH.cons (o := { dst := some 131, op := Op.call { callee := Callee.value (Operand.func 30), args := #[Operand.tmp 126, Operand.tmp 130], argTypes := #[23, 3] }, type := 25, pos := "outright.go:168", after := #[{ on := 0, ground := Ground.data }, { on := 4, ground := Ground.data }, { on := 3, ground := Ground.chain }], guard := none }) rfl (fun K hK => ?_) ?_
                        · go_simp
                          refine (cl.out _).mono ?_
                          rintro e v3 ⟨rfl, hb⟩
                          have hb : Below v2.heap.size v2 v3 := ⟨hb.os, hb.tape, hb.output, hb.size, hb.block⟩
                          have hS := BSt.all (hHeld.2.2.2.keep hb)
                          have BC := BC.keep hb
                          go_wp2_with fail
                          refine hK.out _ _ hS (fun hHeld => ?_)
                          clear hK K hb hHeld
                          have hHeld := hS
                          clear hS
                          try simp only [Act.put, List.setIfInBounds_toArray, List.set_cons_zero, List.set_cons_succ]
                          refine wpAnyH_take (i := 6) (oi := { dst := some 125, op := Op.move (Operand.tmp 131), type := 25, pos := "outright.go:168", after := #[{ on := 5, ground := Ground.data }], guard := none }) (v := ?_) rfl (by kernel_rfl) (by kernel_rfl) (by kernel_rfl) (fun _ _ _ h => h) (Or.inl ⟨by rfl, ?_⟩) (by assumption) ?_
                          rotate_left
                          · (intro w hSw; (try dsimp only at hSw); go_simp; first | done | with_reducible rfl)
                          try simp only [Act.put, List.setIfInBounds_toArray, List.set_cons_zero, List.set_cons_succ]
                          refine wpAnyH_take (i := 7) (oi := { dst := some 132, op := Op.extract (Operand.tmp 125) 0, type := 23, pos := "outright.go:168", after := #[{ on := 6, ground := Ground.data }], guard := none }) (v := ?_) rfl (by kernel_rfl) (by kernel_rfl) (by kernel_rfl) (fun _ _ _ h => h) (Or.inl ⟨by rfl, ?_⟩) (by assumption) ?_
                          rotate_left
                          · (intro w hSw; (try dsimp only at hSw); go_simp; first | done | with_reducible rfl)
                          try simp only [Act.put, List.setIfInBounds_toArray, List.set_cons_zero, List.set_cons_succ]
                          refine wpAnyH_take (i := 8) (oi := { dst := some 133, op := Op.extract (Operand.tmp 125) 1, type := 24, pos := "outright.go:168", after := #[{ on := 6, ground := Ground.data }, { on := 10, ground := Ground.gcOnly Departure.lateStores }], guard := none }) (v := ?_) rfl (by kernel_rfl) (by kernel_rfl) (by kernel_rfl) (fun _ _ _ h => h) (Or.inl ⟨by rfl, ?_⟩) (by assumption) ?_
                          rotate_left
                          · (intro w hSw; (try dsimp only at hSw); go_simp; first | done | with_reducible rfl)
                          try simp only [Act.put, List.setIfInBounds_toArray, List.set_cons_zero, List.set_cons_succ]
                          refine wpAnyH_ready (rs := [10]) (by kernel_rfl) (by simp) ?_
                          refine AllReadyH.cons (o := { dst := none, op := Op.store 23 (Operand.tmp 18) (Operand.tmp 132), type := 0, pos := "outright.go:168", after := #[{ on := 9, ground := Ground.data }, { on := 7, ground := Ground.data }, { on := 5, ground := Ground.chain }, { on := 0, ground := Ground.phase }, { on := 1, ground := Ground.phase }, { on := 2, ground := Ground.phase }, { on := 3, ground := Ground.phase }, { on := 4, ground := Ground.phase }, { on := 5, ground := Ground.phase }, { on := 6, ground := Ground.phase }, { on := 7, ground := Ground.phase }, { on := 8, ground := Ground.textOnly Departure.lateStores }, { on := 9, ground := Ground.phase }], guard := none }) rfl (fun K hK => ?_) ?_
                          · have c0 := BC.c0
                            have c1 := BC.c1
                            have c2 := BC.c2
                            have f0 := BC.f0
                            have f1 := BC.f1
                            have f2 := BC.f2
                            go_simp
                            have hS := BSt.all (hHeld.2.2.2.store (g := v1.heap.size) (by omega) (by omega) (.int .i64 x2) (.int .i64 y2) (.int .i64 z2))
                            have BC := BC.set (.int .i64 x2) (.int .i64 y2) (.int .i64 z2)
                            refine hK.out _ _ hS (fun hHeld => ?_)
                            clear hK K c0 c1 c2 f0 f1 f2 hHeld
                            change wpAnyH _ _ _ _ _ _ _ _ (set3 v3 (v1.heap.size) (.int .i64 x2) (.int .i64 y2) (.int .i64 z2))
                            generalize set3 v3 (v1.heap.size) (.int .i64 x2) (.int .i64 y2) (.int .i64 z2) = v4 at *
                            have hHeld := hS
                            clear hS
                            try simp only [Act.put, List.setIfInBounds_toArray, List.set_cons_zero, List.set_cons_succ]
                            refine wpAnyH_take (i := 11) (oi := { dst := some 13, op := Op.assign (Operand.tmp 133), type := 24, pos := "outright.go:168", after := #[{ on := 8, ground := Ground.data }, { on := 10, ground := Ground.chain }, { on := 0, ground := Ground.phase }, { on := 1, ground := Ground.phase }, { on := 2, ground := Ground.phase }, { on := 3, ground := Ground.phase }, { on := 4, ground := Ground.phase }, { on := 5, ground := Ground.phase }, { on := 6, ground := Ground.phase }, { on := 7, ground := Ground.phase }, { on := 8, ground := Ground.phase }, { on := 9, ground := Ground.phase }, { on := 10, ground := Ground.phase }], guard := none }) (v := ?_) rfl (by kernel_rfl) (by kernel_rfl) (by kernel_rfl) (fun _ _ _ h => h) (Or.inl ⟨by rfl, ?_⟩) (by assumption) ?_
                            rotate_left
                            · (intro w hSw; (try dsimp only at hSw); go_simp; first | done | with_reducible rfl)
                            try simp only [Act.put, List.setIfInBounds_toArray, List.set_cons_zero, List.set_cons_succ]
                            refine wpAnyH_done (by kernel_rfl) ?_ _
                            go_wp2_with fail
                            go_meet
                            exact ⟨v1.heap.size, rfl, rfl, BC, hHeld.2.2.2⟩
                          exact AllReadyH.nil
                        exact AllReadyH.nil
                      exact AllReadyH.nil
                    refine AllReadyH.cons (o := { dst := some 18, op := Op.alloc 23, type := 0, pos := "outright.go:168", after := #[], guard := none }) rfl (fun K hK => ?_) ?_
                    · go_simp
                      have hb := below_new v0 (.cells #[.int .i64 0, .int .i64 0, .int .i64 0] 23)
                      have BC := B3.new (.int .i64 0) (.int .i64 0) (.int .i64 0) 23 v0
                      have KC : w.heap.size < v0.heap.size ∧ fb < v0.heap.size := ⟨hHeld.2.2.2.r.size, hHeld.2.2.2.f.size⟩
                      have hS := BSt.all (hHeld.2.2.2.keep hb)
                      refine hK.out _ _ hS (fun hHeld => ?_)
                      clear hK K hb hHeld
                      generalize v0.alloc (.cells #[.int .i64 0, .int .i64 0, .int .i64 0] 23) = v1 at *
                      have hHeld := hS
                      clear hS
                      try simp only [Act.put, List.setIfInBounds_toArray, List.set_cons_zero, List.set_cons_succ]
                      refine wpAnyH_ready (rs := [3]) (by kernel_rfl) (by simp) ?_
                      refine AllReadyH.cons (o := { dst := some 129, op := Op.call { callee := Callee.value (Operand.func 23), args := #[Operand.tmp 128], argTypes := #[23] }, type := 3, pos := "outright.go:168", after := #[{ on := 2, ground := Ground.data }], guard := none }) rfl (fun K hK => ?_) ?_
                      · go_simp
                        refine (Size_any _ _ _ _ hl hh hs).mono ?_
                        rintro e v2 ⟨rfl, hb⟩
                        have hb : Below v1.heap.size v1 v2 := ⟨hb.os, hb.tape, hb.output, hb.size, hb.block⟩
                        have hS := BSt.all (hHeld.2.2.2.keep hb)
                        have BC := BC.keep hb
                        go_wp2_with fail
                        refine hK.out _ _ hS (fun hHeld => ?_)
                        clear hK K hb hHeld
                        have hHeld := hS
                        clear hS
                        try simp only [Act.put, List.setIfInBounds_toArray, List.set_cons_zero, List.set_cons_succ]
                        refine wpAnyH_take (i := 4) (oi := { dst := some 130, op := Op.binOp BinOp.sub 3 (Operand.tmp 127) (Operand.tmp 129) 3, type := 3, pos := "outright.go:168", after := #[{ on := 1, ground := Ground.data }, { on := 3, ground := Ground.data }], guard := none }) (v := ?_) rfl (by kernel_rfl) (by kernel_rfl) (by kernel_rfl) (fun _ _ _ h => h) (Or.inl ⟨by rfl, ?_⟩) (by assumption) ?_
                        rotate_left
                        · (intro w hSw; (try dsimp only at hSw); go_simp; first | done | with_reducible rfl)
                        try simp only [Act.put, List.setIfInBounds_toArray, List.set_cons_zero, List.set_cons_succ]
                        refine wpAnyH_ready (rs := [5]) (by kernel_rfl) (by simp) ?_
                        refine AllReadyH.cons (o := { dst := some 131, op := Op.call { callee := Callee.value (Operand.func 30), args := #[Operand.tmp 126, Operand.tmp 130], argTypes := #[23, 3] }, type := 25, pos := "outright.go:168", after := #[{ on := 0, ground := Ground.data }, { on := 4, ground := Ground.data }, { on := 3, ground := Ground.chain }], guard := none }) rfl (fun K hK => ?_) ?_
                        · go_simp
                          refine (cl.out _).mono ?_
                          rintro e v3 ⟨rfl, hb⟩
                          have hb : Below v2.heap.size v2 v3 := ⟨hb.os, hb.tape, hb.output, hb.size, hb.block⟩
                          have hS := BSt.all (hHeld.2.2.2.keep hb)
                          have BC := BC.keep hb
                          go_wp2_with fail
                          refine hK.out _ _ hS (fun hHeld => ?_)
                          clear hK K hb hHeld
                          have hHeld := hS
                          clear hS
                          try simp only [Act.put, List.setIfInBounds_toArray, List.set_cons_zero, List.set_cons_succ]
                          refine wpAnyH_take (i := 6) (oi := { dst := some 125, op := Op.move (Operand.tmp 131), type := 25, pos := "outright.go:168", after := #[{ on := 5, ground := Ground.data }], guard := none }) (v := ?_) rfl (by kernel_rfl) (by kernel_rfl) (by kernel_rfl) (fun _ _ _ h => h) (Or.inl ⟨by rfl, ?_⟩) (by assumption) ?_
                          rotate_left
                          · (intro w hSw; (try dsimp only at hSw); go_simp; first | done | with_reducible rfl)
                          try simp only [Act.put, List.setIfInBounds_toArray, List.set_cons_zero, List.set_cons_succ]
                          refine wpAnyH_take (i := 7) (oi := { dst := some 132, op := Op.extract (Operand.tmp 125) 0, type := 23, pos := "outright.go:168", after := #[{ on := 6, ground := Ground.data }], guard := none }) (v := ?_) rfl (by kernel_rfl) (by kernel_rfl) (by kernel_rfl) (fun _ _ _ h => h) (Or.inl ⟨by rfl, ?_⟩) (by assumption) ?_
                          rotate_left
                          · (intro w hSw; (try dsimp only at hSw); go_simp; first | done | with_reducible rfl)
                          try simp only [Act.put, List.setIfInBounds_toArray, List.set_cons_zero, List.set_cons_succ]
                          refine wpAnyH_take (i := 8) (oi := { dst := some 133, op := Op.extract (Operand.tmp 125) 1, type := 24, pos := "outright.go:168", after := #[{ on := 6, ground := Ground.data }, { on := 10, ground := Ground.gcOnly Departure.lateStores }], guard := none }) (v := ?_) rfl (by kernel_rfl) (by kernel_rfl) (by kernel_rfl) (fun _ _ _ h => h) (Or.inl ⟨by rfl, ?_⟩) (by assumption) ?_
                          rotate_left
                          · (intro w hSw; (try dsimp only at hSw); go_simp; first | done | with_reducible rfl)
                          try simp only [Act.put, List.setIfInBounds_toArray, List.set_cons_zero, List.set_cons_succ]
                          refine wpAnyH_ready (rs := [10]) (by kernel_rfl) (by simp) ?_
                          refine AllReadyH.cons (o := { dst := none, op := Op.store 23 (Operand.tmp 18) (Operand.tmp 132), type := 0, pos := "outright.go:168", after := #[{ on := 9, ground := Ground.data }, { on := 7, ground := Ground.data }, { on := 5, ground := Ground.chain }, { on := 0, ground := Ground.phase }, { on := 1, ground := Ground.phase }, { on := 2, ground := Ground.phase }, { on := 3, ground := Ground.phase }, { on := 4, ground := Ground.phase }, { on := 5, ground := Ground.phase }, { on := 6, ground := Ground.phase }, { on := 7, ground := Ground.phase }, { on := 8, ground := Ground.textOnly Departure.lateStores }, { on := 9, ground := Ground.phase }], guard := none }) rfl (fun K hK => ?_) ?_
                          · have c0 := BC.c0
                            have c1 := BC.c1
                            have c2 := BC.c2
                            have f0 := BC.f0
                            have f1 := BC.f1
                            have f2 := BC.f2
                            go_simp
                            have hS := BSt.all (hHeld.2.2.2.store (g := v0.heap.size) (by omega) (by omega) (.int .i64 x2) (.int .i64 y2) (.int .i64 z2))
                            have BC := BC.set (.int .i64 x2) (.int .i64 y2) (.int .i64 z2)
                            refine hK.out _ _ hS (fun hHeld => ?_)
                            clear hK K c0 c1 c2 f0 f1 f2 hHeld
                            change wpAnyH _ _ _ _ _ _ _ _ (set3 v3 (v0.heap.size) (.int .i64 x2) (.int .i64 y2) (.int .i64 z2))
                            generalize set3 v3 (v0.heap.size) (.int .i64 x2) (.int .i64 y2) (.int .i64 z2) = v4 at *
                            have hHeld := hS
                            clear hS
                            try simp only [Act.put, List.setIfInBounds_toArray, List.set_cons_zero, List.set_cons_succ]
                            refine wpAnyH_take (i := 11) (oi := { dst := some 13, op := Op.assign (Operand.tmp 133), type := 24, pos := "outright.go:168", after := #[{ on := 8, ground := Ground.data }, { on := 10, ground := Ground.chain }, { on := 0, ground := Ground.phase }, { on := 1, ground := Ground.phase }, { on := 2, ground := Ground.phase }, { on := 3, ground := Ground.phase }, { on := 4, ground := Ground.phase }, { on := 5, ground := Ground.phase }, { on := 6, ground := Ground.phase }, { on := 7, ground := Ground.phase }, { on := 8, ground := Ground.phase }, { on := 9, ground := Ground.phase }, { on := 10, ground := Ground.phase }], guard := none }) (v := ?_) rfl (by kernel_rfl) (by kernel_rfl) (by kernel_rfl) (fun _ _ _ h => h) (Or.inl ⟨by rfl, ?_⟩) (by assumption) ?_
                            rotate_left
                            · (intro w hSw; (try dsimp only at hSw); go_simp; first | done | with_reducible rfl)
                            try simp only [Act.put, List.setIfInBounds_toArray, List.set_cons_zero, List.set_cons_succ]
                            refine wpAnyH_done (by kernel_rfl) ?_ _
                            go_wp2_with fail
                            go_meet
                            exact ⟨v0.heap.size, rfl, rfl, BC, hHeld.2.2.2⟩
                          exact AllReadyH.nil
                        exact AllReadyH.nil
                      exact AllReadyH.nil
                    exact AllReadyH.nil
                  case rest =>
                    obtain ⟨g, rfl, rfl, fl, s9⟩ := hcut
                    have FL9 := Lib.hid fl
                    have S9 := Lib.hid s9
                    have zr := s9.r.size
                    have zf := s9.f.size
                    have zg := fl.size
                    clear fl s9 S8 HS
                    have h4 := HS4.out
                    have hc := HCC.out
                    go_upto_region 17 with fail
                    refine wp_region_held_drew (S := (fun w' => w'.cell? ⟨fb, 0, none⟩ = some (.int .i64 x1) ∧ w'.cell? ⟨fb, 1, none⟩ = some (.int .i64 y1) ∧ w'.cell? ⟨fb, 2, none⟩ = some (.int .i64 z1) ∧ w'.cell? ⟨g, 0, none⟩ = some (.int .i64 x2) ∧ w'.cell? ⟨g, 1, none⟩ = some (.int .i64 y2) ∧ w'.cell? ⟨g, 2, none⟩ = some (.int .i64 z2) ∧ w'.cell? ⟨w.heap.size, 0, none⟩ = some (.int .i64 l) ∧ w'.cell? ⟨w.heap.size, 1, none⟩ = some (.int .i64 h) ∧ w'.cell? ⟨w.heap.size, 2, none⟩ = some (.int .i64 s))) (by kernel_rfl) ?_ (fun hHeld => ?_)
                    · first | exact hHeld | exact ⟨S9.out.f.c0, S9.out.f.c1, S9.out.f.c2, FL9.out.c0, FL9.out.c1, FL9.out.c2, S9.out.r.c0, S9.out.r.c1, S9.out.r.c2⟩ | (simp [go_sem, *]; done) | go_keep
                    refine wpAnyH_take (i := 0) (oi := { dst := some 134, op := Op.move (Operand.tmp 10), type := 24, pos := "outright.go:169", after := #[], guard := none }) (v := ?_) rfl (by kernel_rfl) (by kernel_rfl) (by kernel_rfl) (fun _ _ _ h => h) (Or.inl ⟨by rfl, ?_⟩) (by assumption) ?_
                    rotate_left
                    · (intro w hSw; (try dsimp only at hSw); go_simp; first | done | with_reducible rfl)
                    try simp only [Act.put, List.setIfInBounds_toArray, List.set_cons_zero, List.set_cons_succ]
                    refine wpAnyH_take (i := 1) (oi := { dst := some 135, op := Op.binOp BinOp.eql 24 (Operand.tmp 134) (Operand.const (Value.int IntKind.i64 0)) 24, type := 4, pos := "outright.go:169", after := #[{ on := 0, ground := Ground.data }], guard := none }) (v := ?_) rfl (by kernel_rfl) (by kernel_rfl) (by kernel_rfl) (fun _ _ _ h => h) (Or.inl ⟨by rfl, ?_⟩) (by assumption) ?_
                    rotate_left
                    · (intro w hSw; (try dsimp only at hSw); go_simp; first | done | with_reducible rfl)
                    try simp only [Act.put, List.setIfInBounds_toArray, List.set_cons_zero, List.set_cons_succ]
                    refine wpAnyH_take (i := 2) (oi := { dst := some 136, op := Op.move (Operand.tmp 135), type := 4, pos := "outright.go:169", after := #[{ on := 1, ground := Ground.data }], guard := none }) (v := ?_) rfl (by kernel_rfl) (by kernel_rfl) (by kernel_rfl) (fun _ _ _ h => h) (Or.inl ⟨by rfl, ?_⟩) (by assumption) ?_
                    rotate_left
                    · (intro w hSw; (try dsimp only at hSw); go_simp; first | done | with_reducible rfl)
                    try simp only [Act.put, List.setIfInBounds_toArray, List.set_cons_zero, List.set_cons_succ]
                    refine wpAnyH_take (i := 3) (oi := { dst := some 137, op := Op.move (Operand.tmp 13), type := 24, pos := "outright.go:169", after := #[{ on := 2, ground := Ground.guard }], guard := some (2, true) }) (v := ?_) rfl (by kernel_rfl) (by kernel_rfl) (by kernel_rfl) (fun _ _ _ h => h) (Or.inl ⟨by rfl, ?_⟩) (by assumption) ?_
                    rotate_left
                    · (intro w hSw; (try dsimp only at hSw); go_simp; first | done | with_reducible rfl)
                    try simp only [Act.put, List.setIfInBounds_toArray, List.set_cons_zero, List.set_cons_succ]
                    refine wpAnyH_take (i := 4) (oi := { dst := some 138, op := Op.binOp BinOp.eql 24 (Operand.tmp 137) (Operand.const (Value.int IntKind.i64 0)) 24, type := 4, pos := "outright.go:169", after := #[{ on := 3, ground := Ground.data }, { on := 2, ground := Ground.guard }], guard := some (2, true) }) (v := ?_) rfl (by kernel_rfl) (by kernel_rfl) (by kernel_rfl) (fun _ _ _ h => h) (Or.inl ⟨by rfl, ?_⟩) (by assumption) ?_
                    rotate_left
                    · (intro w hSw; (try dsimp only at hSw); go_simp; first | done | with_reducible rfl)
                    try simp only [Act.put, List.setIfInBounds_toArray, List.set_cons_zero, List.set_cons_succ]
                    refine wpAnyH_take (i := 5) (oi := { dst := some 139, op := Op.pick (Operand.tmp 136) (Operand.tmp 138) (Operand.const (Value.bool false)), type := 4, pos := "outright.go:169", after := #[{ on := 2, ground := Ground.data }, { on := 4, ground := Ground.data }], guard := none }) (v := ?_) rfl (by kernel_rfl) (by kernel_rfl) (by kernel_rfl) (fun _ _ _ h => h) (Or.inl ⟨by rfl, ?_⟩) (by assumption) ?_
                    rotate_left
                    · (intro w hSw; (try dsimp only at hSw); go_simp; first | done | with_reducible rfl)
                    try simp only [Act.put, List.setIfInBounds_toArray, List.set_cons_zero, List.set_cons_succ]
                    refine wpAnyH_take (i := 6) (oi := { dst := some 140, op := Op.move (Operand.tmp 139), type := 4, pos := "outright.go:169", after := #[{ on := 5, ground := Ground.data }, { on := 2, ground := Ground.chain }], guard := none }) (v := ?_) rfl (by kernel_rfl) (by kernel_rfl) (by kernel_rfl) (fun _ _ _ h => h) (Or.inl ⟨by rfl, ?_⟩) (by assumption) ?_
                    rotate_left
                    · (intro w hSw; (try dsimp only at hSw); go_simp; first | done | with_reducible rfl)
                    try simp only [Act.put, List.setIfInBounds_toArray, List.set_cons_zero, List.set_cons_succ]
                    refine wpAnyH_take (i := 7) (oi := { dst := some 141, op := Op.load 23 (Operand.tmp 17), type := 23, pos := "outright.go:169", after := #[{ on := 6, ground := Ground.guard }], guard := some (6, true) }) (v := ?_) rfl (by kernel_rfl) (by kernel_rfl) (by kernel_rfl) (fun _ _ _ h => h) (Or.inl ⟨by rfl, ?_⟩) (by assumption) ?_
                    rotate_left
                    · (intro w hSw; (try dsimp only at hSw); go_simp; first | done | with_reducible rfl)
                    try simp only [Act.put, List.setIfInBounds_toArray, List.set_cons_zero, List.set_cons_succ]
                    refine wpAnyH_take (i := 9) (oi := { dst := some 143, op := Op.load 23 (Operand.tmp 18), type := 23, pos := "outright.go:169", after := #[{ on := 6, ground := Ground.guard }], guard := some (6, true) }) (v := ?_) rfl (by kernel_rfl) (by kernel_rfl) (by kernel_rfl) (fun _ _ _ h => h) (Or.inl ⟨by rfl, ?_⟩) (by assumption) ?_
                    rotate_left
                    · (intro w hSw; (try dsimp only at hSw); go_simp; first | done | with_reducible rfl)
                    try simp only [Act.put, List.setIfInBounds_toArray, List.set_cons_zero, List.set_cons_succ]
                    refine wpAnyH_take (i := 13) (oi := { dst := some 147, op := Op.load 23 (Operand.tmp 4), type := 23, pos := "outright.go:169", after := #[{ on := 6, ground := Ground.guard }], guard := some (6, true) }) (v := ?_) rfl (by kernel_rfl) (by kernel_rfl) (by kernel_rfl) (fun _ _ _ h => h) (Or.inl ⟨by rfl, ?_⟩) (by assumption) ?_
                    rotate_left
                    · (intro w hSw; (try dsimp only at hSw); go_simp; first | done | with_reducible rfl)
                    try simp only [Act.put, List.setIfInBounds_toArray, List.set_cons_zero, List.set_cons_succ]
                    refine wpAnyH_ready (rs := [8]) (by kernel_rfl) (by simp) ?_
                    refine AllReadyH.cons (o := { dst := some 142, op := Op.call { callee := Callee.value (Operand.func 50), args := #[Operand.tmp 141, Operand.const (Value.int IntKind.i64 401)], argTypes := #[23, 3] }, type := 48, pos := "outright.go:169", after := #[{ on := 7, ground := Ground.data }, { on := 6, ground := Ground.chain }, { on := 6, ground := Ground.guard }], guard := some (6, true) }) rfl (fun K hK => ?_) AllReadyH.nil
                    go_simp
                    refine (numbers_any _ _ _ _ _ ck1 (by rw [cz1.out]; omega) (by omega)).mono ?_
                    rintro e u1 ⟨va, rfl, oa, hb⟩
                    obtain ⟨ao, cao, rfl⟩ := owns_slice oa.out
                    have hb : Below wc.heap.size wc u1 := ⟨hb.os, hb.tape, hb.output, hb.size, hb.block⟩
                    have S1 := Lib.hid (S9.out.keep hb)
                    have L1 := Lib.hid (FL9.out.keep hb)
                    have zr := S1.out.r.size
                    have zf := S1.out.f.size
                    have zg := L1.out.size
                    go_wp2_with fail
                    refine hK.out _ _ ?_ (fun hHeld8 => ?_)
                    · (obtain ⟨q0, q1, q2, q3, q4, q5, q6, q7, q8⟩ := hHeld; exact ⟨(hb.cell (p := ⟨fb, 0, none⟩) (by first | (simp; done) | (simp; omega))).trans q0, (hb.cell (p := ⟨fb, 1, none⟩) (by first | (simp; done) | (simp; omega))).trans q1, (hb.cell (p := ⟨fb, 2, none⟩) (by first | (simp; done) | (simp; omega))).trans q2, (hb.cell (p := ⟨g, 0, none⟩) (by first | (simp; done) | (simp; omega))).trans q3, (hb.cell (p := ⟨g, 1, none⟩) (by first | (simp; done) | (simp; omega))).trans q4, (hb.cell (p := ⟨g, 2, none⟩) (by first | (simp; done) | (simp; omega))).trans q5, (hb.cell (p := ⟨w.heap.size, 0, none⟩) (by first | (simp; done) | (simp; omega))).trans q6, (hb.cell (p := ⟨w.heap.size, 1, none⟩) (by first | (simp; done) | (simp; omega))).trans q7, (hb.cell (p := ⟨w.heap.size, 2, none⟩) (by first | (simp; done) | (simp; omega))).trans q8⟩)
                    clear hK K hHeld
                    have hHeld := hHeld8
                    clear hHeld8
                    try simp only [Act.put, List.setIfInBounds_toArray, List.set_cons_zero, List.set_cons_succ]
                    refine wpAnyH_ready (rs := [10]) (by kernel_rfl) (by simp) ?_
                    refine AllReadyH.cons (o := { dst := some 144, op := Op.call { callee := Callee.value (Operand.func 50), args := #[Operand.tmp 143, Operand.const (Value.int IntKind.i64 401)], argTypes := #[23, 3] }, type := 48, pos := "outright.go:169", after := #[{ on := 9, ground := Ground.data }, { on := 8, ground := Ground.chain }, { on := 6, ground := Ground.guard }], guard := some (6, true) }) rfl (fun K hK => ?_) AllReadyH.nil
                    go_simp
                    refine (numbers_any _ _ _ _ _ ck2 (by rw [cz2.out]; omega) (by omega)).mono ?_
                    rintro e u2 ⟨vb, rfl, ob, hb'⟩
                    obtain ⟨bo, cbo, rfl⟩ := owns_slice ob.out
                    have oa := Lib.hid (owns_below oa.out hb')
                    have S2 := Lib.hid (S1.out.keep hb')
                    have L2 := Lib.hid (L1.out.keep hb')
                    have zr := S2.out.r.size
                    have zf := S2.out.f.size
                    have zg := L2.out.size
                    go_wp2_with fail
                    refine hK.out _ _ ?_ (fun hHeld10 => ?_)
                    · (obtain ⟨q0, q1, q2, q3, q4, q5, q6, q7, q8⟩ := hHeld; exact ⟨(hb'.cell (p := ⟨fb, 0, none⟩) (by first | (simp; done) | (simp; omega))).trans q0, (hb'.cell (p := ⟨fb, 1, none⟩) (by first | (simp; done) | (simp; omega))).trans q1, (hb'.cell (p := ⟨fb, 2, none⟩) (by first | (simp; done) | (simp; omega))).trans q2, (hb'.cell (p := ⟨g, 0, none⟩) (by first | (simp; done) | (simp; omega))).trans q3, (hb'.cell (p := ⟨g, 1, none⟩) (by first | (simp; done) | (simp; omega))).trans q4, (hb'.cell (p := ⟨g, 2, none⟩) (by first | (simp; done) | (simp; omega))).trans q5, (hb'.cell (p := ⟨w.heap.size, 0, none⟩) (by first | (simp; done) | (simp; omega))).trans q6, (hb'.cell (p := ⟨w.heap.size, 1, none⟩) (by first | (simp; done) | (simp; omega))).trans q7, (hb'.cell (p := ⟨w.heap.size, 2, none⟩) (by first | (simp; done) | (simp; omega))).trans q8⟩)
                    clear hK K hHeld
                    have hHeld := hHeld10
                    clear hHeld10
                    try simp only [Act.put, List.setIfInBounds_toArray, List.set_cons_zero, List.set_cons_succ]
                    refine wpAnyH_ready (rs := [11]) (by kernel_rfl) (by simp) ?_
                    refine AllReadyH.cons (o := { dst := some 145, op := Op.buildSlice 120 2 #[(0, Operand.tmp 142), (1, Operand.tmp 144)], type := 120, pos := "outright.go:169", after := #[{ on := 8, ground := Ground.data }, { on := 10, ground := Ground.data }, { on := 6, ground := Ground.guard }], guard := some (6, true) }) rfl (fun K hK => ?_) AllReadyH.nil
                    go_simp
                    refine hK.out _ _ ?_ (fun hHeld11 => ?_)
                    · first | exact hHeld | exact ⟨S9.out.f.c0, S9.out.f.c1, S9.out.f.c2, FL9.out.c0, FL9.out.c1, FL9.out.c2, S9.out.r.c0, S9.out.r.c1, S9.out.r.c2⟩ | (simp [go_sem, *]; done) | go_keep
                    clear hK K hHeld
                    have hHeld := hHeld11
                    clear hHeld11
                    try simp only [Act.put, List.setIfInBounds_toArray, List.set_cons_zero, List.set_cons_succ]
                    refine wpAnyH_ready (rs := [12]) (by kernel_rfl) (by simp) ?_
                    refine AllReadyH.cons (o := { dst := some 146, op := Op.call { callee := Callee.value (Operand.func 56), args := #[Operand.tmp 145], argTypes := #[120] }, type := 48, pos := "outright.go:169", after := #[{ on := 11, ground := Ground.data }, { on := 10, ground := Ground.chain }, { on := 6, ground := Ground.guard }], guard := some (6, true) }) rfl (fun K hK => ?_) AllReadyH.nil
                    go_simp
                    refine (concat_any _ _ u2.heap.size _ _ (numsL x1 y1 z1) (numsL x2 y2 z2) _ (by simp) (by simp [go_sem]) (by simp [go_sem]) (Lib.hid (oa.out.alloc _)) (Lib.hid (ob.out.alloc _)) (by rw [ln1.out]; omega) (by rw [ln2.out]; omega)).mono ?_
                    rintro e u3 ⟨vc, rfl, oc, hb3⟩
                    have S3 := Lib.hid ((S2.out.keep (below_new _ _)).keep hb3)
                    have L3 := Lib.hid ((L2.out.keep (below_new _ _)).keep hb3)
                    have zr := S3.out.r.size
                    have zf := S3.out.f.size
                    have zg := L3.out.size
                    go_wp2_with fail
                    refine hK.out _ _ ?_ (fun hHeld12 => ?_)
                    · (obtain ⟨q0, q1, q2, q3, q4, q5, q6, q7, q8⟩ := hHeld; exact ⟨(hb3.cell (p := ⟨fb, 0, none⟩) (by first | (simp; done) | (simp; omega))).trans q0, (hb3.cell (p := ⟨fb, 1, none⟩) (by first | (simp; done) | (simp; omega))).trans q1, (hb3.cell (p := ⟨fb, 2, none⟩) (by first | (simp; done) | (simp; omega))).trans q2, (hb3.cell (p := ⟨g, 0, none⟩) (by first | (simp; done) | (simp; omega))).trans q3, (hb3.cell (p := ⟨g, 1, none⟩) (by first | (simp; done) | (simp; omega))).trans q4, (hb3.cell (p := ⟨g, 2, none⟩) (by first | (simp; done) | (simp; omega))).trans q5, (hb3.cell (p := ⟨w.heap.size, 0, none⟩) (by first | (simp; done) | (simp; omega))).trans q6, (hb3.cell (p := ⟨w.heap.size, 1, none⟩) (by first | (simp; done) | (simp; omega))).trans q7, (hb3.cell (p := ⟨w.heap.size, 2, none⟩) (by first | (simp; done) | (simp; omega))).trans q8⟩)
                    clear hK K hHeld
                    have hHeld := hHeld12
                    clear hHeld12
                    try simp only [Act.put, List.setIfInBounds_toArray, List.set_cons_zero, List.set_cons_succ]
                    refine wpAnyH_ready (rs := [14]) (by kernel_rfl) (by simp) ?_
                    refine AllReadyH.cons (o := { dst := some 148, op := Op.call { callee := Callee.value (Operand.func 50), args := #[Operand.tmp 147, Operand.const (Value.int IntKind.i64 401)], argTypes := #[23, 3] }, type := 48, pos := "outright.go:169", after := #[{ on := 13, ground := Ground.data }, { on := 12, ground := Ground.chain }, { on := 6, ground := Ground.guard }], guard := some (6, true) }) rfl (fun K hK => ?_) AllReadyH.nil
                    go_simp
                    refine (numbers_any _ _ _ _ _ HC (by omega) (by omega)).mono ?_
                    rintro e u4 ⟨vd, rfl, od, hb4⟩
                    have oc := Lib.hid (owns_below oc.out hb4)
                    have S4 := Lib.hid (S3.out.keep hb4)
                    have L4 := Lib.hid (L3.out.keep hb4)
                    have zr := S4.out.r.size
                    have zf := S4.out.f.size
                    have zg := L4.out.size
                    go_wp2_with fail
                    refine hK.out _ _ ?_ (fun hHeld14 => ?_)
                    · (obtain ⟨q0, q1, q2, q3, q4, q5, q6, q7, q8⟩ := hHeld; exact ⟨(hb4.cell (p := ⟨fb, 0, none⟩) (by first | (simp; done) | (simp; omega))).trans q0, (hb4.cell (p := ⟨fb, 1, none⟩) (by first | (simp; done) | (simp; omega))).trans q1, (hb4.cell (p := ⟨fb, 2, none⟩) (by first | (simp; done) | (simp; omega))).trans q2, (hb4.cell (p := ⟨g, 0, none⟩) (by first | (simp; done) | (simp; omega))).trans q3, (hb4.cell (p := ⟨g, 1, none⟩) (by first | (simp; done) | (simp; omega))).trans q4, (hb4.cell (p := ⟨g, 2, none⟩) (by first | (simp; done) | (simp; omega))).trans q5, (hb4.cell (p := ⟨w.heap.size, 0, none⟩) (by first | (simp; done) | (simp; omega))).trans q6, (hb4.cell (p := ⟨w.heap.size, 1, none⟩) (by first | (simp; done) | (simp; omega))).trans q7, (hb4.cell (p := ⟨w.heap.size, 2, none⟩) (by first | (simp; done) | (simp; omega))).trans q8⟩)
                    clear hK K hHeld
                    have hHeld := hHeld14
                    clear hHeld14
                    try simp only [Act.put, List.setIfInBounds_toArray, List.set_cons_zero, List.set_cons_succ]
                    refine wpAnyH_ready (rs := [15]) (by kernel_rfl) (by simp) ?_
                    refine AllReadyH.cons (o := { dst := some 149, op := Op.call { callee := Callee.value (Operand.func 52), args := #[Operand.tmp 146, Operand.tmp 148], argTypes := #[48, 48] }, type := 4, pos := "outright.go:169", after := #[{ on := 12, ground := Ground.data }, { on := 14, ground := Ground.data }, { on := 14, ground := Ground.chain }, { on := 6, ground := Ground.guard }], guard := some (6, true) }) rfl (fun K hK => ?_) AllReadyH.nil
                    go_simp
                    refine (equalI_any _ _ _ _ (numsL l h s) _ (by have e := oc.out; rw [CAT.out] at e; exact e) od.out (by rw [numsL_length]; omega)).mono ?_
                    rintro e u5 ⟨rfl, hb5⟩
                    have S5 := Lib.hid (S4.out.keep hb5)
                    have L5 := Lib.hid (L4.out.keep hb5)
                    have zr := S5.out.r.size
                    have zf := S5.out.f.size
                    have zg := L5.out.size
                    go_wp2_with fail
                    refine hK.out _ _ ?_ (fun hHeld15 => ?_)
                    · (obtain ⟨q0, q1, q2, q3, q4, q5, q6, q7, q8⟩ := hHeld; exact ⟨(hb5.cell (p := ⟨fb, 0, none⟩) (by first | (simp; done) | (simp; omega))).trans q0, (hb5.cell (p := ⟨fb, 1, none⟩) (by first | (simp; done) | (simp; omega))).trans q1, (hb5.cell (p := ⟨fb, 2, none⟩) (by first | (simp; done) | (simp; omega))).trans q2, (hb5.cell (p := ⟨g, 0, none⟩) (by first | (simp; done) | (simp; omega))).trans q3, (hb5.cell (p := ⟨g, 1, none⟩) (by first | (simp; done) | (simp; omega))).trans q4, (hb5.cell (p := ⟨g, 2, none⟩) (by first | (simp; done) | (simp; omega))).trans q5, (hb5.cell (p := ⟨w.heap.size, 0, none⟩) (by first | (simp; done) | (simp; omega))).trans q6, (hb5.cell (p := ⟨w.heap.size, 1, none⟩) (by first | (simp; done) | (simp; omega))).trans q7, (hb5.cell (p := ⟨w.heap.size, 2, none⟩) (by first | (simp; done) | (simp; omega))).trans q8⟩)
                    clear hK K hHeld
                    have hHeld := hHeld15
                    clear hHeld15
                    try simp only [Act.put, List.setIfInBounds_toArray, List.set_cons_zero, List.set_cons_succ]
                    refine wpAnyH_take (i := 16) (oi := { dst := some 150, op := Op.pick (Operand.tmp 140) (Operand.tmp 149) (Operand.const (Value.bool false)), type := 4, pos := "outright.go:169", after := #[{ on := 6, ground := Ground.data }, { on := 15, ground := Ground.data }], guard := none }) (v := ?_) rfl (by kernel_rfl) (by kernel_rfl) (by kernel_rfl) (fun _ _ _ h => h) (Or.inl ⟨by rfl, ?_⟩) (by assumption) ?_
                    rotate_left
                    · (intro w hSw; (try dsimp only at hSw); go_simp; first | done | with_reducible rfl)
                    try simp only [Act.put, List.setIfInBounds_toArray, List.set_cons_zero, List.set_cons_succ]
                    refine wpAnyH_take (i := 17) (oi := { dst := some 151, op := Op.move (Operand.tmp 150), type := 4, pos := "outright.go:169", after := #[{ on := 16, ground := Ground.data }, { on := 15, ground := Ground.chain }], guard := none }) (v := ?_) rfl (by kernel_rfl) (by kernel_rfl) (by kernel_rfl) (fun _ _ _ h => h) (Or.inl ⟨by rfl, ?_⟩) (by assumption) ?_
                    rotate_left
                    · (intro w hSw; (try dsimp only at hSw); go_simp; first | done | with_reducible rfl)
                    try simp only [Act.put, List.setIfInBounds_toArray, List.set_cons_zero, List.set_cons_succ]
                    refine wpAnyH_ready (rs := [18]) (by kernel_rfl) (by simp) ?_
                    refine AllReadyH.cons (o := { dst := some 152, op := Op.call { callee := Callee.value (Operand.func 27), args := #[], argTypes := #[] }, type := 4, pos := "outright.go:169", after := #[{ on := 17, ground := Ground.chain }, { on := 17, ground := Ground.guard }], guard := some (17, true) }) rfl (fun K hK => ?_) AllReadyH.nil
                    go_simp
                    refine (awake_any _).mono ?_
                    rintro e u6 ⟨rfl, hb6⟩
                    have S6 := Lib.hid (S5.out.keep hb6)
                    go_wp2_with fail
                    refine hK.out _ _ ?_ (fun hHeld18 => ?_)
                    · (obtain ⟨q0, q1, q2, q3, q4, q5, q6, q7, q8⟩ := hHeld; exact ⟨(hb6.cell (p := ⟨fb, 0, none⟩) (by first | (simp; done) | (simp; omega))).trans q0, (hb6.cell (p := ⟨fb, 1, none⟩) (by first | (simp; done) | (simp; omega))).trans q1, (hb6.cell (p := ⟨fb, 2, none⟩) (by first | (simp; done) | (simp; omega))).trans q2, (hb6.cell (p := ⟨g, 0, none⟩) (by first | (simp; done) | (simp; omega))).trans q3, (hb6.cell (p := ⟨g, 1, none⟩) (by first | (simp; done) | (simp; omega))).trans q4, (hb6.cell (p := ⟨g, 2, none⟩) (by first | (simp; done) | (simp; omega))).trans q5, (hb6.cell (p := ⟨w.heap.size, 0, none⟩) (by first | (simp; done) | (simp; omega))).trans q6, (hb6.cell (p := ⟨w.heap.size, 1, none⟩) (by first | (simp; done) | (simp; omega))).trans q7, (hb6.cell (p := ⟨w.heap.size, 2, none⟩) (by first | (simp; done) | (simp; omega))).trans q8⟩)
                    clear hK K hHeld
                    have hHeld := hHeld18
                    clear hHeld18
                    try simp only [Act.put, List.setIfInBounds_toArray, List.set_cons_zero, List.set_cons_succ]
                    refine wpAnyH_take (i := 19) (oi := { dst := some 153, op := Op.pick (Operand.tmp 151) (Operand.tmp 152) (Operand.const (Value.bool false)), type := 4, pos := "outright.go:169", after := #[{ on := 17, ground := Ground.data }, { on := 18, ground := Ground.data }], guard := none }) (v := ?_) rfl (by kernel_rfl) (by kernel_rfl) (by kernel_rfl) (fun _ _ _ h => h) (Or.inl ⟨by rfl, ?_⟩) (by assumption) ?_
                    rotate_left
                    · (intro w hSw; (try dsimp only at hSw); go_simp; first | done | with_reducible rfl)
                    try simp only [Act.put, List.setIfInBounds_toArray, List.set_cons_zero, List.set_cons_succ]
                    refine wpAnyH_take (i := 20) (oi := { dst := some 8, op := Op.assign (Operand.tmp 153), type := 4, pos := "outright.go:169", after := #[{ on := 19, ground := Ground.data }, { on := 18, ground := Ground.chain }, { on := 0, ground := Ground.phase }, { on := 1, ground := Ground.phase }, { on := 2, ground := Ground.phase }, { on := 3, ground := Ground.phase }, { on := 4, ground := Ground.phase }, { on := 5, ground := Ground.phase }, { on := 6, ground := Ground.phase }, { on := 7, ground := Ground.phase }, { on := 8, ground := Ground.phase }, { on := 9, ground := Ground.phase }, { on := 10, ground := Ground.phase }, { on := 11, ground := Ground.phase }, { on := 12, ground := Ground.phase }, { on := 13, ground := Ground.phase }, { on := 14, ground := Ground.phase }, { on := 15, ground := Ground.phase }, { on := 16, ground := Ground.phase }, { on := 17, ground := Ground.phase }, { on := 18, ground := Ground.phase }, { on := 19, ground := Ground.phase }], guard := none }) (v := ?_) rfl (by kernel_rfl) (by kernel_rfl) (by kernel_rfl) (fun _ _ _ h => h) (Or.inl ⟨by rfl, ?_⟩) (by assumption) ?_
                    rotate_left
                    · (intro w hSw; (try dsimp only at hSw); go_simp; first | done | with_reducible rfl)
                    try simp only [Act.put, List.setIfInBounds_toArray, List.set_cons_zero, List.set_cons_succ]
                    refine wpAnyH_done (by kernel_rfl) ?_ _
                    have W := S6.out.below
                    clear hHeld
                    go_wp2
                    go_ret
                    exact ⟨rfl, W⟩
end Go.Proofs.Ytdifilndpilboaa
