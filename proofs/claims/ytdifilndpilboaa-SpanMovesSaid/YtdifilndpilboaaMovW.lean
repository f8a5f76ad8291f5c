/-
  The walk of the law SpanMoves: it returns true for every range and number, and no block that was there before has changed.
-/
import Derived.Test.YtdifilndpilboaaEqF
import Derived.Test.YtdifilndpilboaaMovM
import Derived.WalkKit
import Derived.Deep.RegionWith
import Derived.Deep.DeepCutAuto
import Derived.Deep.LoopGhost
import Derived.Deep.CutBlock
import Derived.WalkSpells
import Derived.WalkLawsBesides
import Derived.BigQuiet
import Derived.Deep.QuietTactic
import Derived.Deep.RegionHeld3
import Derived.Deep.DrawnRows
import Derived.Lib.Hide
namespace Go.Proofs.Ytdifilndpilboaa
open Go.RowKit

/-- the law's boxes, and the numbers of the range -/
structure MSt (w : World) (l h s n : Int) (base g cap : Nat) (xs : List Int) (w' : World) : Prop where
  below : Below w.heap.size w w'
  a : B3 w.heap.size (.int .i64 l) (.int .i64 h) (.int .i64 s) w'
  nz : w.heap.size + 1 < w'.heap.size
  n0 : w'.cell? ⟨w.heap.size + 1, 0, none⟩ = some (.int .i64 n)
  own : w'.ownsRow base 3 1 (.slice (some ⟨g, 0, none⟩) xs.length cap) xs.length (xs.map (Value.int .i64))
theorem MSt.keep {w : World} {l h s n : Int} {base g cap : Nat} {xs : List Int} {wa wb : World} (m : MSt w l h s n base g cap xs wa) (hb : Below wa.heap.size wa wb) : MSt w l h s n base g cap xs wb :=
  ⟨m.below.trans (hb.mono m.below.size), m.a.keep hb, Nat.lt_of_lt_of_le m.nz hb.size, (hb.cell (p := ⟨w.heap.size + 1, 0, none⟩) m.nz).trans m.n0, owns_below m.own hb⟩
theorem resM {w w1 : World} {t t' : TypeId} {a b c d : Value} (hb : Below ((w.alloc (.cells #[a, b, c] t)).alloc (.cells #[d] t')).heap.size ((w.alloc (.cells #[a, b, c] t)).alloc (.cells #[d] t')) w1) :
    Below w.heap.size w w1 ∧ B3 w.heap.size a b c w1 ∧ w.heap.size + 1 < w1.heap.size ∧ w1.cell? ⟨w.heap.size + 1, 0, none⟩ = some d := by
  have n0 := B3.new a b c t w
  have m0 := n0.keep (w1 := (w.alloc (.cells #[a, b, c] t)).alloc (.cells #[d] t')) (below_new _ _)
  have hs : w.heap.size + 1 < ((w.alloc (.cells #[a, b, c] t)).alloc (.cells #[d] t')).heap.size := by simp
  refine ⟨(((Below.refl _ _).alloc (Nat.le_refl _) _).alloc (by simp) _).trans (hb.mono (by simp; omega)), m0.keep hb, Nat.lt_of_lt_of_le hs hb.size, ?_⟩
  rw [hb.cell (p := ⟨w.heap.size + 1, 0, none⟩) hs]; simp [go_sem]

set_option maxRecDepth 100000 in
set_option maxHeartbeats 12800000 in
theorem spanMoves_walk (l h s n : Int) (w : World) (hl : I64 l) (hh : I64 h) (hs : I64 s) (_hn : I64 n) :
    Calls Try.prog 8 #[.agg #[.int .i64 l, .int .i64 h, .int .i64 s], .int .i64 n] w fun e w' => e = .returned (.bool true) ∧ Below w.heap.size w w' := by
  go_enter Try.func8, Try.ntmps8
  go_wp2_with fail
  refine (small_any _ _ _ _ hl hh hs).mono ?_
  rintro e w1 ⟨rfl, hb1⟩
  have R1 := Lib.hid (resM hb1)
  clear hb1
  have xn := R1.out.2.2.2
  cases hq : smB l h s
  · go_wp2_with fail
    refine (awake_any _).mono ?_
    rintro e w2 ⟨rfl, hb2⟩
    have W2 := R1.out.1.trans (hb2.mono R1.out.1.size)
    clear hb2
    go_wp2
    go_ret
    exact ⟨rfl, W2⟩
  · have hc : chk l h s = 0 ∧ siz l h s ≤ 400 := by unfold smB at hq; simpa using hq
    have HC := Lib.hid hc.1
    have S4 := Lib.hid hc.2
    clear hc hq
    by_cases c1 : n < 0
    · go_wp2_with fail
      refine (awake_any _).mono ?_
      rintro e w2 ⟨rfl, hb2⟩
      have W2 := R1.out.1.trans (hb2.mono R1.out.1.size)
      clear hb2
      go_wp2
      go_ret
      exact ⟨rfl, W2⟩
    · by_cases c2 : 400 < n
      · go_wp2_with fail
        refine (awake_any _).mono ?_
        rintro e w2 ⟨rfl, hb2⟩
        have W2 := R1.out.1.trans (hb2.mono R1.out.1.size)
        clear hb2
        go_wp2
        go_ret
        exact ⟨rfl, W2⟩
      · have x0 := R1.out.2.1.c0
        have x1 := R1.out.2.1.c1
        have x2 := R1.out.2.1.c2
        go_wp2_with fail
        refine (Size_any _ _ _ _ hl hh hs).mono ?_
        rintro e w2 ⟨rfl, hb2⟩
        have A2 := Lib.hid (R1.out.2.1.keep hb2)
        have W2 := Lib.hid (R1.out.1.trans (hb2.mono R1.out.1.size))
        have z2 := Lib.hid (Nat.lt_of_lt_of_le R1.out.2.2.1 hb2.size)
        have N2 := Lib.hid ((hb2.cell (p := ⟨w.heap.size + 1, 0, none⟩) R1.out.2.2.1).trans xn)
        clear hb2 R1 x0 x1 x2 xn
        by_cases le : l ≤ h
        case neg =>
          have z0 := empty_a HC.out le
          have z0' : (siz l h s == 0) = true := by simp [z0]
          clear z0
          go_wp2_with fail
          refine (awake_any _).mono ?_
          rintro e w3 ⟨rfl, hb3⟩
          have W3 := W2.out.trans (hb3.mono W2.out.size)
          clear hb3
          go_wp2
          go_ret
          exact ⟨rfl, W3⟩
        case pos =>
          obtain ⟨st, z1, m1, s0⟩ := steps_a HC.out le
          have z0' : (siz l h s == 0) = false := by simp; omega
          have bA := chk_bounds HC.out
          have x0 := A2.out.c0
          have x1 := A2.out.c1
          have x2 := A2.out.c2
          have z4 := S4.out
          have ST := Lib.hid st
          clear st
          go_wp2_with fail
          refine (numbers_any _ _ _ _ _ HC (by omega) (by omega)).mono ?_
          rintro e w3 ⟨lv, rfl, own, hb3⟩
          obtain ⟨ao, cap, rfl⟩ := owns_slice own.out
          have ln : (numsL l h s).length = (siz l h s).toNat := nums_len l h s
          obtain ⟨g, rfl⟩ := owns_addr own.out (by omega)
          have M3 : Hid (MSt w l h s n w2.heap.size g cap (numsL l h s) w3) := Lib.hid ⟨W2.out.trans (hb3.mono W2.out.size), A2.out.keep hb3, Nat.lt_of_lt_of_le z2.out hb3.size, (hb3.cell (p := ⟨w.heap.size + 1, 0, none⟩) z2.out).trans N2.out, own.out⟩
          clear hb3 own W2 A2 z2 N2 x0 x1 x2
          generalize w2.heap.size = base at *
          have XB : Hid (∀ x ∈ numsL l h s, -1000000 ≤ x ∧ x ≤ 1000000) := Lib.hid (fun x hx => by
            have hm := (nums_mem HC.out x).1 hx
            exact ⟨by have := hm.1; omega, by have := hm.2.1; omega⟩)
          have ln4 : (numsL l h s).length ≤ 400 := by omega
          have LN := Lib.hid ln
          clear ln
          have x0 := M3.out.a.c0
          have x1 := M3.out.a.c1
          have x2 := M3.out.a.c2
          have zr := M3.out.a.size
          have zn := M3.out.nz
          have xn := M3.out.n0
          go_wp2_with fail
          refine (trans_any _ _ _ _ _ HC.out le (by omega) (by omega)).mono ?_
          rintro e w4 ⟨a, b, c, er, rfl, hb4, hT⟩
          have M4 := Lib.hid ((M3.out.keep hb4).keep (below_new w4 (.cells #[.int .i64 a, .int .i64 b, .int .i64 c] 23)))
          have T4 := Lib.hid (B3.new (.int .i64 a) (.int .i64 b) (.int .i64 c) 23 w4)
          clear hb4 M3 x0 x1 x2 zr zn xn
          go_upto_if 51 with (fail)
          generalize w4.alloc (.cells #[.int .i64 a, .int .i64 b, .int .i64 c] 23) = w5 at *
          generalize w4.heap.size = tb at *
          go_cut [4] (fun _ wx => Hid (MSt w l h s n base g cap (numsL l h s) wx))
          case first =>
            rcases hT.out with ⟨rfl, rfl, rfl, rfl, hc⟩ | rfl
            · have HT := Lib.hid hc
              clear hc hT
              have bT := chk_bounds HT.out
              have x0 := M4.out.a.c0
              have x1 := M4.out.a.c1
              have x2 := M4.out.a.c2
              have zr := M4.out.a.size
              have xn := M4.out.n0
              have zn := M4.out.nz
              have y0 := T4.out.c0
              have y1 := T4.out.c1
              have y2 := T4.out.c2
              have zt := T4.out.size
              have jn : IntKind.i64.wrap (-n) = -n := IntWalk.i64_in _ (by omega)
              go_wp2_with fail
              have TB := Lib.hid (trans_back l h s n HC.out le (by omega) (by omega) HT.out)
              refine (TB.out _).mono ?_
              rintro e w6 ⟨rfl, hb6⟩
              have M6 := Lib.hid (M4.out.keep hb6)
              have T6 := Lib.hid (T4.out.keep hb6)
              clear hb6 M4 T4 x0 x1 x2 zr xn zn y0 y1 y2 zt
              have x0 := M6.out.a.c0
              have x1 := M6.out.a.c1
              have x2 := M6.out.a.c2
              have zr := M6.out.a.size
              have xn := M6.out.n0
              have zn := M6.out.nz
              have y0 := T6.out.c0
              have y1 := T6.out.c1
              have y2 := T6.out.c2
              have zt := T6.out.size
              have nq := neq_range l h s l h s
              rw [reqB_self] at nq
              have zs := siz_ends HC.out le (l + n) (h + n) HT.out (by omega) 0 (by rw [Int.add_zero, ← ST.out]; omega)
              have ZS : Hid (siz (l + n) (h + n) s ≤ 401) := Lib.hid (by omega)
              clear zs
              go_wp2_with fail
              refine (numbers_any _ _ _ _ _ HT ZS.out (by omega)).mono ?_
              rintro e w7 ⟨nv, rfl, on, hb7⟩
              have M7 := Lib.hid ((M6.out.keep (below_new w6 (.cells #[.int .i64 l, .int .i64 h, .int .i64 s] 23))).keep hb7)
              have on := Lib.hid (show w7.ownsRow _ 3 1 nv (numsL l h s).length (((numsL l h s).map (· + n)).map (Value.int .i64)) by
                have e := on.out
                rw [trans_nums l h s n HC.out le HT.out, List.length_map] at e
                exact e)
              obtain ⟨an, cn, rfl⟩ := owns_slice on.out
              obtain ⟨gn, rfl⟩ := owns_addr on.out (by have := LN.out; omega)
              clear hb7 M6 T6 x0 x1 x2 zr xn zn y0 y1 y2 zt nq
              go_wp2_with fail
              refine (eqFunc_add gn g cn cap _ _ (w.heap.size + 1) n (numsL l h s) _ on.out M7.out.own M7.out.n0 XB (by omega) (by omega) (by omega)).mono ?_
              rintro e w8 ⟨rfl, hb8⟩
              have M8 := Lib.hid (M7.out.keep hb8)
              clear hb8 M7 on
              go_wp2_with fail
              go_meet
              exact M8
            · clear hT
              go_wp2_with fail
              go_meet
              exact M4
          case rest =>
            clear M4 T4 hT
            have M5 := hcut
            clear hcut
            have x0 := M5.out.a.c0
            have x1 := M5.out.a.c1
            have x2 := M5.out.a.c2
            have zr := M5.out.a.size
            have zn := M5.out.nz
            have xn := M5.out.n0
            go_wp2_with fail
            refine (exp_any _ _ _ _ _ HC.out le (by omega) (by omega)).mono ?_
            rintro e w6 ⟨a, b, c, er, rfl, hb6, hE⟩
            have M6 := Lib.hid ((M5.out.keep hb6).keep (below_new w6 (.cells #[.int .i64 a, .int .i64 b, .int .i64 c] 23)))
            have T6 := Lib.hid (B3.new (.int .i64 a) (.int .i64 b) (.int .i64 c) 23 w6)
            clear hb6 M5
            clear x0 x1 x2 zr zn xn
            go_upto_if 81 with (fail)
            generalize w6.alloc (.cells #[.int .i64 a, .int .i64 b, .int .i64 c] 23) = w7 at *
            generalize w6.heap.size = tb at *
            go_cut [4] (fun _ wx => Hid (MSt w l h s n base g cap (numsL l h s) wx))
            case first =>
              rcases hE.out with ⟨rfl, rfl, rfl, rfl, hc⟩ | rfl
              · have HT := Lib.hid hc
                clear hc hE
                have TB := Lib.hid (exp_back l h s n HC.out le (by omega) (by omega) HT.out)
                have EW := Lib.hid (exp_within l h s n HC.out le (by omega))
                have SE := Lib.hid (siz_exp l h s n HC.out le (by omega) HT.out)
                have bT := chk_bounds HT.out
                generalize l - n * magA s = tl at *
                generalize h + n * magA s = th at *
                have x0 := M6.out.a.c0
                have x1 := M6.out.a.c1
                have x2 := M6.out.a.c2
                have zr := M6.out.a.size
                have zn := M6.out.nz
                have xn := M6.out.n0
                have y0 := T6.out.c0
                have y1 := T6.out.c1
                have y2 := T6.out.c2
                have zt := T6.out.size
                have jn : IntKind.i64.wrap (-n) = -n := IntWalk.i64_in _ (by omega)
                go_wp2_with fail
                refine (TB.out _).mono ?_
                rintro e w8 ⟨rfl, hb8⟩
                have M8 := Lib.hid ((M6.out.keep hb8).keep (below_new w8 (.cells #[.int .i64 l, .int .i64 h, .int .i64 s] 23)))
                have T8 := Lib.hid ((T6.out.keep hb8).keep (below_new w8 (.cells #[.int .i64 l, .int .i64 h, .int .i64 s] 23)))
                have B8 := Lib.hid (B3.new (.int .i64 l) (.int .i64 h) (.int .i64 s) 23 w8)
                clear hb8 M6 T6 y0 y1 y2 zt TB jn
                clear x0 x1 x2 zr zn xn
                go_upto_region 12 with fail
                generalize w8.alloc (.cells #[.int .i64 l, .int .i64 h, .int .i64 s] 23) = w9 at *
                generalize w8.heap.size = bb at *
                have x0 := M8.out.a.c0
                have x1 := M8.out.a.c1
                have x2 := M8.out.a.c2
                have xn := M8.out.n0
                have y0 := T8.out.c0
                have y1 := T8.out.c1
                have y2 := T8.out.c2
                have v0 := B8.out.c0
                have v1 := B8.out.c1
                have v2 := B8.out.c2
                have j2 : IntKind.i64.wrap (2 * n) = 2 * n := IntWalk.i64_in _ (by omega)
                have j3 : IntKind.i64.wrap (((numsL l h s).length : Int) + 2 * n) = ((numsL l h s).length : Int) + 2 * n := IntWalk.i64_in _ (by omega)
                have zr := M8.out.a.size
                have zn := M8.out.nz
                have zt := T8.out.size
                have zb := B8.out.size
                have Z1 := Lib.hid z1
                clear z0' z1 m1
                refine wp_region_held_drew (S := (fun w' => w'.cell? ⟨bb, 0, none⟩ = some (.int .i64 l) ∧ w'.cell? ⟨bb, 1, none⟩ = some (.int .i64 h) ∧ w'.cell? ⟨bb, 2, none⟩ = some (.int .i64 s) ∧ w'.cell? ⟨w.heap.size, 0, none⟩ = some (.int .i64 l) ∧ w'.cell? ⟨w.heap.size, 1, none⟩ = some (.int .i64 h) ∧ w'.cell? ⟨w.heap.size, 2, none⟩ = some (.int .i64 s) ∧ w'.cell? ⟨tb, 0, none⟩ = some (.int .i64 tl) ∧ w'.cell? ⟨tb, 1, none⟩ = some (.int .i64 th) ∧ w'.cell? ⟨tb, 2, none⟩ = some (.int .i64 s) ∧ w'.cell? ⟨w.heap.size + 1, 0, none⟩ = some (.int .i64 n))) (by kernel_rfl) ?_ (fun hHeld => ?_)
                · first | exact hHeld | exact ⟨v0, v1, v2, x0, x1, x2, y0, y1, y2, xn⟩ | (simp [go_sem, *]; done) | go_keep
                refine wpAnyH_take (i := 0) (oi := { dst := some 89, op := Op.move (Operand.tmp 13), type := 24, pos := "outright.go:94", after := #[], guard := none }) (v := ?_) rfl (by kernel_rfl) (by kernel_rfl) (by kernel_rfl) (fun _ _ _ h => h) (Or.inl ⟨by rfl, ?_⟩) (by assumption) ?_
                rotate_left
                · (intro w hSw; (try dsimp only at hSw); go_simp; first | done | with_reducible rfl)
                try simp only [Act.put, List.setIfInBounds_toArray, List.set_cons_zero, List.set_cons_succ]
                refine wpAnyH_take (i := 1) (oi := { dst := some 90, op := Op.binOp BinOp.neq 24 (Operand.tmp 89) (Operand.const (Value.int IntKind.i64 0)) 24, type := 4, pos := "outright.go:94", after := #[{ on := 0, ground := Ground.data }], guard := none }) (v := ?_) rfl (by kernel_rfl) (by kernel_rfl) (by kernel_rfl) (fun _ _ _ h => h) (Or.inl ⟨by rfl, ?_⟩) (by assumption) ?_
                rotate_left
                · (intro w hSw; (try dsimp only at hSw); go_simp; first | done | with_reducible rfl)
                try simp only [Act.put, List.setIfInBounds_toArray, List.set_cons_zero, List.set_cons_succ]
                refine wpAnyH_take (i := 2) (oi := { dst := some 91, op := Op.move (Operand.tmp 90), type := 4, pos := "outright.go:94", after := #[{ on := 1, ground := Ground.data }], guard := none }) (v := ?_) rfl (by kernel_rfl) (by kernel_rfl) (by kernel_rfl) (fun _ _ _ h => h) (Or.inl ⟨by rfl, ?_⟩) (by assumption) ?_
                rotate_left
                · (intro w hSw; (try dsimp only at hSw); go_simp; first | done | with_reducible rfl)
                try simp only [Act.put, List.setIfInBounds_toArray, List.set_cons_zero, List.set_cons_succ]
                refine wpAnyH_take (i := 3) (oi := { dst := some 92, op := Op.load 23 (Operand.tmp 12), type := 23, pos := "outright.go:94", after := #[{ on := 2, ground := Ground.guard }], guard := some (2, false) }) (v := ?_) rfl (by kernel_rfl) (by kernel_rfl) (by kernel_rfl) (fun _ _ _ h => h) (Or.inl ⟨by rfl, ?_⟩) (by assumption) ?_
                rotate_left
                · (intro w hSw; (try dsimp only at hSw); go_simp; first | done | with_reducible rfl)
                try simp only [Act.put, List.setIfInBounds_toArray, List.set_cons_zero, List.set_cons_succ]
                refine wpAnyH_take (i := 5) (oi := { dst := some 94, op := Op.load 23 (Operand.tmp 2), type := 23, pos := "outright.go:94", after := #[{ on := 2, ground := Ground.guard }], guard := some (2, false) }) (v := ?_) rfl (by kernel_rfl) (by kernel_rfl) (by kernel_rfl) (fun _ _ _ h => h) (Or.inl ⟨by rfl, ?_⟩) (by assumption) ?_
                rotate_left
                · (intro w hSw; (try dsimp only at hSw); go_simp; first | done | with_reducible rfl)
                try simp only [Act.put, List.setIfInBounds_toArray, List.set_cons_zero, List.set_cons_succ]
                refine wpAnyH_ready (rs := [4]) (by kernel_rfl) (by simp) ?_
                refine AllReadyH.cons (o := { dst := some 93, op := Op.call { callee := Callee.value (Operand.func 55), args := #[Operand.tmp 92], argTypes := #[23] }, type := 48, pos := "outright.go:94", after := #[{ on := 3, ground := Ground.data }, { on := 2, ground := Ground.chain }, { on := 2, ground := Ground.guard }], guard := some (2, false) }) rfl (fun K hK => ?_) AllReadyH.nil
                go_simp
                refine (sorted_any l h s _ HC z4).mono ?_
                rintro e u1 ⟨va, rfl, oa, hb⟩
                have hb : Below w9.heap.size w9 u1 := ⟨hb.os, hb.tape, hb.output, hb.size, hb.block⟩
                have M1 := Lib.hid (M8.out.keep hb)
                have zr := M1.out.a.size
                have zn := M1.out.nz
                have zt := Nat.lt_of_lt_of_le zt hb.size
                have zb := Nat.lt_of_lt_of_le zb hb.size
                go_wp2_with fail
                refine hK.out _ _ ?_ (fun hHeld4 => ?_)
                · (obtain ⟨q0, q1, q2, q3, q4, q5, q6, q7, q8, q9⟩ := hHeld; exact ⟨(hb.cell (p := ⟨bb, 0, none⟩) (by first | (simp; done) | (simp; omega))).trans q0, (hb.cell (p := ⟨bb, 1, none⟩) (by first | (simp; done) | (simp; omega))).trans q1, (hb.cell (p := ⟨bb, 2, none⟩) (by first | (simp; done) | (simp; omega))).trans q2, (hb.cell (p := ⟨w.heap.size, 0, none⟩) (by first | (simp; done) | (simp; omega))).trans q3, (hb.cell (p := ⟨w.heap.size, 1, none⟩) (by first | (simp; done) | (simp; omega))).trans q4, (hb.cell (p := ⟨w.heap.size, 2, none⟩) (by first | (simp; done) | (simp; omega))).trans q5, (hb.cell (p := ⟨tb, 0, none⟩) (by first | (simp; done) | (simp; omega))).trans q6, (hb.cell (p := ⟨tb, 1, none⟩) (by first | (simp; done) | (simp; omega))).trans q7, (hb.cell (p := ⟨tb, 2, none⟩) (by first | (simp; done) | (simp; omega))).trans q8, (hb.cell (p := ⟨w.heap.size + 1, 0, none⟩) (by first | (simp; done) | (simp; omega))).trans q9⟩)
                clear hK K hHeld
                have hHeld := hHeld4
                clear hHeld4
                try simp only [Act.put, List.setIfInBounds_toArray, List.set_cons_zero, List.set_cons_succ]
                refine wpAnyH_ready (rs := [6]) (by kernel_rfl) (by simp) ?_
                refine AllReadyH.cons (o := { dst := some 95, op := Op.call { callee := Callee.value (Operand.func 55), args := #[Operand.tmp 94], argTypes := #[23] }, type := 48, pos := "outright.go:94", after := #[{ on := 5, ground := Ground.data }, { on := 4, ground := Ground.chain }, { on := 2, ground := Ground.guard }], guard := some (2, false) }) rfl (fun K hK => ?_) AllReadyH.nil
                go_simp
                refine (sorted_any l h s _ HC z4).mono ?_
                rintro e u2 ⟨vb, rfl, ob, hb2⟩
                have oa := Lib.hid (owns_below oa.out hb2)
                have M2 := Lib.hid (M1.out.keep hb2)
                have zr := M2.out.a.size
                have zn := M2.out.nz
                have zt := Nat.lt_of_lt_of_le zt hb2.size
                have zb := Nat.lt_of_lt_of_le zb hb2.size
                go_wp2_with fail
                refine hK.out _ _ ?_ (fun hHeld6 => ?_)
                · (obtain ⟨q0, q1, q2, q3, q4, q5, q6, q7, q8, q9⟩ := hHeld; exact ⟨(hb2.cell (p := ⟨bb, 0, none⟩) (by first | (simp; done) | (simp; omega))).trans q0, (hb2.cell (p := ⟨bb, 1, none⟩) (by first | (simp; done) | (simp; omega))).trans q1, (hb2.cell (p := ⟨bb, 2, none⟩) (by first | (simp; done) | (simp; omega))).trans q2, (hb2.cell (p := ⟨w.heap.size, 0, none⟩) (by first | (simp; done) | (simp; omega))).trans q3, (hb2.cell (p := ⟨w.heap.size, 1, none⟩) (by first | (simp; done) | (simp; omega))).trans q4, (hb2.cell (p := ⟨w.heap.size, 2, none⟩) (by first | (simp; done) | (simp; omega))).trans q5, (hb2.cell (p := ⟨tb, 0, none⟩) (by first | (simp; done) | (simp; omega))).trans q6, (hb2.cell (p := ⟨tb, 1, none⟩) (by first | (simp; done) | (simp; omega))).trans q7, (hb2.cell (p := ⟨tb, 2, none⟩) (by first | (simp; done) | (simp; omega))).trans q8, (hb2.cell (p := ⟨w.heap.size + 1, 0, none⟩) (by first | (simp; done) | (simp; omega))).trans q9⟩)
                clear hK K hHeld
                have hHeld := hHeld6
                clear hHeld6
                try simp only [Act.put, List.setIfInBounds_toArray, List.set_cons_zero, List.set_cons_succ]
                refine wpAnyH_ready (rs := [7]) (by kernel_rfl) (by simp) ?_
                refine AllReadyH.cons (o := { dst := some 96, op := Op.call { callee := Callee.value (Operand.func 52), args := #[Operand.tmp 93, Operand.tmp 95], argTypes := #[48, 48] }, type := 4, pos := "outright.go:94", after := #[{ on := 4, ground := Ground.data }, { on := 6, ground := Ground.data }, { on := 6, ground := Ground.chain }, { on := 2, ground := Ground.guard }], guard := some (2, false) }) rfl (fun K hK => ?_) AllReadyH.nil
                go_simp
                refine (equalI_any _ _ _ _ (srt (numsL l h s)) _ oa.out ob.out (by rw [srt_length]; omega)).mono ?_
                rintro e u3 ⟨rfl, hb3⟩
                have M3 := Lib.hid (M2.out.keep hb3)
                have zr := M3.out.a.size
                have zn := M3.out.nz
                have zt := Nat.lt_of_lt_of_le zt hb3.size
                have zb := Nat.lt_of_lt_of_le zb hb3.size
                go_wp2_with fail
                refine hK.out _ _ ?_ (fun hHeld7 => ?_)
                · (obtain ⟨q0, q1, q2, q3, q4, q5, q6, q7, q8, q9⟩ := hHeld; exact ⟨(hb3.cell (p := ⟨bb, 0, none⟩) (by first | (simp; done) | (simp; omega))).trans q0, (hb3.cell (p := ⟨bb, 1, none⟩) (by first | (simp; done) | (simp; omega))).trans q1, (hb3.cell (p := ⟨bb, 2, none⟩) (by first | (simp; done) | (simp; omega))).trans q2, (hb3.cell (p := ⟨w.heap.size, 0, none⟩) (by first | (simp; done) | (simp; omega))).trans q3, (hb3.cell (p := ⟨w.heap.size, 1, none⟩) (by first | (simp; done) | (simp; omega))).trans q4, (hb3.cell (p := ⟨w.heap.size, 2, none⟩) (by first | (simp; done) | (simp; omega))).trans q5, (hb3.cell (p := ⟨tb, 0, none⟩) (by first | (simp; done) | (simp; omega))).trans q6, (hb3.cell (p := ⟨tb, 1, none⟩) (by first | (simp; done) | (simp; omega))).trans q7, (hb3.cell (p := ⟨tb, 2, none⟩) (by first | (simp; done) | (simp; omega))).trans q8, (hb3.cell (p := ⟨w.heap.size + 1, 0, none⟩) (by first | (simp; done) | (simp; omega))).trans q9⟩)
                clear hK K hHeld
                have hHeld := hHeld7
                clear hHeld7
                try simp only [Act.put, List.setIfInBounds_toArray, List.set_cons_zero, List.set_cons_succ]
                refine wpAnyH_take (i := 8) (oi := { dst := some 97, op := Op.unOp UnOp.not 4 (Operand.tmp 96), type := 4, pos := "outright.go:94", after := #[{ on := 7, ground := Ground.data }, { on := 2, ground := Ground.guard }], guard := some (2, false) }) (v := ?_) rfl (by kernel_rfl) (by kernel_rfl) (by kernel_rfl) (fun _ _ _ h => h) (Or.inl ⟨by rfl, ?_⟩) (by assumption) ?_
                rotate_left
                · (intro w hSw; (try dsimp only at hSw); go_simp; first | done | with_reducible rfl)
                try simp only [Act.put, List.setIfInBounds_toArray, List.set_cons_zero, List.set_cons_succ]
                refine wpAnyH_take (i := 9) (oi := { dst := some 98, op := Op.pick (Operand.tmp 91) (Operand.const (Value.bool true)) (Operand.tmp 97), type := 4, pos := "outright.go:94", after := #[{ on := 2, ground := Ground.data }, { on := 8, ground := Ground.data }], guard := none }) (v := ?_) rfl (by kernel_rfl) (by kernel_rfl) (by kernel_rfl) (fun _ _ _ h => h) (Or.inl ⟨by rfl, ?_⟩) (by assumption) ?_
                rotate_left
                · (intro w hSw; (try dsimp only at hSw); go_simp; first | done | with_reducible rfl)
                try simp only [Act.put, List.setIfInBounds_toArray, List.set_cons_zero, List.set_cons_succ]
                refine wpAnyH_take (i := 10) (oi := { dst := some 99, op := Op.move (Operand.tmp 98), type := 4, pos := "outright.go:94", after := #[{ on := 9, ground := Ground.data }, { on := 7, ground := Ground.chain }], guard := none }) (v := ?_) rfl (by kernel_rfl) (by kernel_rfl) (by kernel_rfl) (fun _ _ _ h => h) (Or.inl ⟨by rfl, ?_⟩) (by assumption) ?_
                rotate_left
                · (intro w hSw; (try dsimp only at hSw); go_simp; first | done | with_reducible rfl)
                try simp only [Act.put, List.setIfInBounds_toArray, List.set_cons_zero, List.set_cons_succ]
                refine wpAnyH_take (i := 11) (oi := { dst := some 100, op := Op.load 23 (Operand.tmp 10), type := 23, pos := "outright.go:94", after := #[{ on := 10, ground := Ground.guard }], guard := some (10, false) }) (v := ?_) rfl (by kernel_rfl) (by kernel_rfl) (by kernel_rfl) (fun _ _ _ h => h) (Or.inl ⟨by rfl, ?_⟩) (by assumption) ?_
                rotate_left
                · (intro w hSw; (try dsimp only at hSw); go_simp; first | done | with_reducible rfl)
                try simp only [Act.put, List.setIfInBounds_toArray, List.set_cons_zero, List.set_cons_succ]
                refine wpAnyH_take (i := 13) (oi := { dst := some 102, op := Op.move (Operand.tmp 5), type := 48, pos := "outright.go:94", after := #[{ on := 10, ground := Ground.guard }], guard := some (10, false) }) (v := ?_) rfl (by kernel_rfl) (by kernel_rfl) (by kernel_rfl) (fun _ _ _ h => h) (Or.inl ⟨by rfl, ?_⟩) (by assumption) ?_
                rotate_left
                · (intro w hSw; (try dsimp only at hSw); go_simp; first | done | with_reducible rfl)
                try simp only [Act.put, List.setIfInBounds_toArray, List.set_cons_zero, List.set_cons_succ]
                refine wpAnyH_take (i := 14) (oi := { dst := some 103, op := Op.call { callee := Callee.builtin Builtin.len, args := #[Operand.tmp 102], argTypes := #[48] }, type := 3, pos := "outright.go:94", after := #[{ on := 13, ground := Ground.data }, { on := 10, ground := Ground.guard }], guard := some (10, false) }) (v := ?_) rfl (by kernel_rfl) (by kernel_rfl) (by kernel_rfl) (fun _ _ _ h => h) (Or.inl ⟨by rfl, ?_⟩) (by assumption) ?_
                rotate_left
                · (intro w hSw; (try dsimp only at hSw); go_simp; first | done | with_reducible rfl)
                try simp only [Act.put, List.setIfInBounds_toArray, List.set_cons_zero, List.set_cons_succ]
                refine wpAnyH_take (i := 15) (oi := { dst := some 104, op := Op.load 3 (Operand.tmp 3), type := 3, pos := "outright.go:94", after := #[{ on := 10, ground := Ground.guard }], guard := some (10, false) }) (v := ?_) rfl (by kernel_rfl) (by kernel_rfl) (by kernel_rfl) (fun _ _ _ h => h) (Or.inl ⟨by rfl, ?_⟩) (by assumption) ?_
                rotate_left
                · (intro w hSw; (try dsimp only at hSw); go_simp; first | done | with_reducible rfl)
                try simp only [Act.put, List.setIfInBounds_toArray, List.set_cons_zero, List.set_cons_succ]
                refine wpAnyH_take (i := 16) (oi := { dst := some 105, op := Op.binOp BinOp.mul 3 (Operand.const (Value.int IntKind.i64 2)) (Operand.tmp 104) 3, type := 3, pos := "outright.go:94", after := #[{ on := 15, ground := Ground.data }, { on := 10, ground := Ground.guard }], guard := some (10, false) }) (v := ?_) rfl (by kernel_rfl) (by kernel_rfl) (by kernel_rfl) (fun _ _ _ h => h) (Or.inl ⟨by rfl, ?_⟩) (by assumption) ?_
                rotate_left
                · (intro w hSw; (try dsimp only at hSw); go_simp; first | done | with_reducible rfl)
                try simp only [Act.put, List.setIfInBounds_toArray, List.set_cons_zero, List.set_cons_succ]
                refine wpAnyH_take (i := 17) (oi := { dst := some 106, op := Op.binOp BinOp.add 3 (Operand.tmp 103) (Operand.tmp 105) 3, type := 3, pos := "outright.go:94", after := #[{ on := 14, ground := Ground.data }, { on := 16, ground := Ground.data }, { on := 10, ground := Ground.guard }], guard := some (10, false) }) (v := ?_) rfl (by kernel_rfl) (by kernel_rfl) (by kernel_rfl) (fun _ _ _ h => h) (Or.inl ⟨by rfl, ?_⟩) (by assumption) ?_
                rotate_left
                · (intro w hSw; (try dsimp only at hSw); go_simp; first | done | with_reducible rfl)
                try simp only [Act.put, List.setIfInBounds_toArray, List.set_cons_zero, List.set_cons_succ]
                refine wpAnyH_ready (rs := [12]) (by kernel_rfl) (by simp) ?_
                refine AllReadyH.cons (o := { dst := some 101, op := Op.call { callee := Callee.value (Operand.func 23), args := #[Operand.tmp 100], argTypes := #[23] }, type := 3, pos := "outright.go:94", after := #[{ on := 11, ground := Ground.data }, { on := 10, ground := Ground.chain }, { on := 10, ground := Ground.guard }], guard := some (10, false) }) rfl (fun K hK => ?_) AllReadyH.nil
                go_simp
                refine (size_val tl th s (((numsL l h s).length : Int) + 2 * n) _ ⟨by omega, by omega⟩ ⟨by omega, by omega⟩ hs (by have := Z1.out; rw [SE.out, LN.out]; omega)).mono ?_
                rintro e u4 ⟨rfl, hb4⟩
                have M4 := Lib.hid (M3.out.keep hb4)
                go_wp2_with fail
                refine hK.out _ _ ?_ (fun hHeld12 => ?_)
                · (obtain ⟨q0, q1, q2, q3, q4, q5, q6, q7, q8, q9⟩ := hHeld; exact ⟨(hb4.cell (p := ⟨bb, 0, none⟩) (by first | (simp; done) | (simp; omega))).trans q0, (hb4.cell (p := ⟨bb, 1, none⟩) (by first | (simp; done) | (simp; omega))).trans q1, (hb4.cell (p := ⟨bb, 2, none⟩) (by first | (simp; done) | (simp; omega))).trans q2, (hb4.cell (p := ⟨w.heap.size, 0, none⟩) (by first | (simp; done) | (simp; omega))).trans q3, (hb4.cell (p := ⟨w.heap.size, 1, none⟩) (by first | (simp; done) | (simp; omega))).trans q4, (hb4.cell (p := ⟨w.heap.size, 2, none⟩) (by first | (simp; done) | (simp; omega))).trans q5, (hb4.cell (p := ⟨tb, 0, none⟩) (by first | (simp; done) | (simp; omega))).trans q6, (hb4.cell (p := ⟨tb, 1, none⟩) (by first | (simp; done) | (simp; omega))).trans q7, (hb4.cell (p := ⟨tb, 2, none⟩) (by first | (simp; done) | (simp; omega))).trans q8, (hb4.cell (p := ⟨w.heap.size + 1, 0, none⟩) (by first | (simp; done) | (simp; omega))).trans q9⟩)
                clear hK K hHeld
                have hHeld := hHeld12
                clear hHeld12
                try simp only [Act.put, List.setIfInBounds_toArray, List.set_cons_zero, List.set_cons_succ]
                refine wpAnyH_take (i := 18) (oi := { dst := some 107, op := Op.binOp BinOp.neq 3 (Operand.tmp 101) (Operand.tmp 106) 3, type := 4, pos := "outright.go:94", after := #[{ on := 12, ground := Ground.data }, { on := 17, ground := Ground.data }, { on := 10, ground := Ground.guard }], guard := some (10, false) }) (v := ?_) rfl (by kernel_rfl) (by kernel_rfl) (by kernel_rfl) (fun _ _ _ h => h) (Or.inl ⟨by rfl, ?_⟩) (by assumption) ?_
                rotate_left
                · (intro w hSw; (try dsimp only at hSw); go_simp; first | done | with_reducible rfl)
                try simp only [Act.put, List.setIfInBounds_toArray, List.set_cons_zero, List.set_cons_succ]
                refine wpAnyH_take (i := 19) (oi := { dst := some 108, op := Op.pick (Operand.tmp 99) (Operand.const (Value.bool true)) (Operand.tmp 107), type := 4, pos := "outright.go:94", after := #[{ on := 10, ground := Ground.data }, { on := 18, ground := Ground.data }], guard := none }) (v := ?_) rfl (by kernel_rfl) (by kernel_rfl) (by kernel_rfl) (fun _ _ _ h => h) (Or.inl ⟨by rfl, ?_⟩) (by assumption) ?_
                rotate_left
                · (intro w hSw; (try dsimp only at hSw); go_simp; first | done | with_reducible rfl)
                try simp only [Act.put, List.setIfInBounds_toArray, List.set_cons_zero, List.set_cons_succ]
                refine wpAnyH_done (by kernel_rfl) ?_ _
                obtain ⟨q0, q1, q2, q3, q4, q5, q6, q7, q8, q9⟩ := hHeld
                clear x0 x1 x2 xn y0 y1 y2 v0 v1 v2
                go_wp2_with fail
                refine (Within_ok _ _ _ _ _ _ _ HC HT).mono ?_
                rintro e u5 ⟨bw, hbw, rfl, hb5⟩
                obtain rfl : bw = true := hbw.2 EW.out
                have M5 := Lib.hid (M4.out.keep hb5)
                clear hbw hb5 M4
                go_wp2_with fail
                go_meet
                exact M5
              · clear hE
                go_wp2_with fail
                go_meet
                exact M6
            case rest =>
              clear M6 T6 hE
              have M7 := hcut
              clear hcut
              have x0 := M7.out.a.c0
              have x1 := M7.out.a.c1
              have x2 := M7.out.a.c2
              have zr := M7.out.a.size
              have zn := M7.out.nz
              have xn := M7.out.n0
              go_wp2_with fail
              refine (int_any _ _ _ _ _ HC.out le z4 (by omega)).mono ?_
              rintro e w8 ⟨a, b, c, er, rfl, hb8, hE⟩
              have M8 := Lib.hid ((M7.out.keep hb8).keep (below_new w8 (.cells #[.int .i64 a, .int .i64 b, .int .i64 c] 23)))
              have T8 := Lib.hid (B3.new (.int .i64 a) (.int .i64 b) (.int .i64 c) 23 w8)
              clear hb8 M7
              clear x0 x1 x2 zr zn xn
              go_upto_if 128 with (fail)
              generalize w8.alloc (.cells #[.int .i64 a, .int .i64 b, .int .i64 c] 23) = w9 at *
              generalize w8.heap.size = tb at *
              go_cut [4] (fun _ wx => Hid (MSt w l h s n base g cap (numsL l h s) wx))
              case first =>
                rcases hE.out with ⟨rfl, hP⟩ | ⟨rfl, big⟩
                · have HT := Lib.hid hP.1
                  have S5 := Lib.hid hP.2.1
                  have nle := hP.2.2.1
                  have SR := Lib.hid hP.2.2.2
                  clear hP hE
                  have bT := chk_bounds HT.out
                  have x0 := M8.out.a.c0
                  have x1 := M8.out.a.c1
                  have x2 := M8.out.a.c2
                  have zr := M8.out.a.size
                  have zn := M8.out.nz
                  have xn := M8.out.n0
                  go_wp2_with fail
                  refine (sorted_any l h s _ HC z4).mono ?_
                  rintro e w10 ⟨vs, rfl, os, hb10⟩
                  have M10 := Lib.hid (M8.out.keep hb10)
                  have T10 := Lib.hid (T8.out.keep hb10)
                  clear hb10 M8 T8
                  clear x0 x1 x2 zr zn xn
                  obtain ⟨a9, cs, rfl⟩ := owns_slice os.out
                  have sl : (srt (numsL l h s)).length = (siz l h s).toNat := by rw [srt_length, LN.out]
                  obtain ⟨gs, rfl⟩ := owns_addr os.out (by omega)
                  have SL := Lib.hid sl
                  clear sl
                  obtain ⟨N, hN⟩ : ∃ N, (srt (numsL l h s)).length = N := ⟨_, rfl⟩
                  rw [hN] at os SL
                  rw [hN]
                  have HN := Lib.hid hN
                  clear hN
                  obtain ⟨m, hm⟩ : ∃ m : Nat, (m : Int) = n := ⟨n.toNat, by omega⟩
                  have HM := Lib.hid hm
                  have mN : m ≤ N := by have := SL.out; omega
                  obtain ⟨ad, c', sr, had⟩ := tail_run gs N cs m mN
                  rw [hm] at sr
                  have ngt : decide ((N : Int) < n) = false := decide_eq_false (by omega)
                  have HAD := Lib.hid had
                  have nN : (N : Int) ≤ 400 := by have := SL.out; omega
                  clear had hm
                  have jn : IntKind.i64.wrap ((N : Int) - n) = (N : Int) - n := IntWalk.i64_in _ (by omega)
                  have SW : Hid (srt (numsL a b c) = (srt (numsL l h s)).drop (N - m)) := Lib.hid (by rw [SR.out, SL.out]; congr 2; have := HM.out; omega)
                  clear SR
                  go_upto_region 20 with fail
                  have xn := M10.out.n0
                  have y0 := T10.out.c0
                  have y1 := T10.out.c1
                  have y2 := T10.out.c2
                  have zn := M10.out.nz
                  have zt := T10.out.size
                  clear z0' z1 m1
                  refine wp_region_held_drew (S := (fun w' => w'.cell? ⟨tb, 0, none⟩ = some (.int .i64 a) ∧ w'.cell? ⟨tb, 1, none⟩ = some (.int .i64 b) ∧ w'.cell? ⟨tb, 2, none⟩ = some (.int .i64 c) ∧ w'.cell? ⟨w.heap.size + 1, 0, none⟩ = some (.int .i64 n))) (by kernel_rfl) ?_ (fun hHeld => ?_)
                  · first | exact hHeld | exact ⟨y0, y1, y2, xn⟩ | (simp [go_sem, *]; done) | go_keep
                  refine wpAnyH_take (i := 0) (oi := { dst := some 131, op := Op.load 3 (Operand.tmp 3), type := 3, pos := "outright.go:103", after := #[], guard := none }) (v := ?_) rfl (by kernel_rfl) (by kernel_rfl) (by kernel_rfl) (fun _ _ _ h => h) (Or.inl ⟨by rfl, ?_⟩) (by assumption) ?_
                  rotate_left
                  · (intro w hSw; (try dsimp only at hSw); go_simp; first | done | with_reducible rfl)
                  try simp only [Act.put, List.setIfInBounds_toArray, List.set_cons_zero, List.set_cons_succ]
                  refine wpAnyH_take (i := 1) (oi := { dst := some 132, op := Op.move (Operand.tmp 18), type := 48, pos := "outright.go:103", after := #[], guard := none }) (v := ?_) rfl (by kernel_rfl) (by kernel_rfl) (by kernel_rfl) (fun _ _ _ h => h) (Or.inl ⟨by rfl, ?_⟩) (by assumption) ?_
                  rotate_left
                  · (intro w hSw; (try dsimp only at hSw); go_simp; first | done | with_reducible rfl)
                  try simp only [Act.put, List.setIfInBounds_toArray, List.set_cons_zero, List.set_cons_succ]
                  refine wpAnyH_take (i := 2) (oi := { dst := some 133, op := Op.call { callee := Callee.builtin Builtin.len, args := #[Operand.tmp 132], argTypes := #[48] }, type := 3, pos := "outright.go:103", after := #[{ on := 1, ground := Ground.data }], guard := none }) (v := ?_) rfl (by kernel_rfl) (by kernel_rfl) (by kernel_rfl) (fun _ _ _ h => h) (Or.inl ⟨by rfl, ?_⟩) (by assumption) ?_
                  rotate_left
                  · (intro w hSw; (try dsimp only at hSw); go_simp; first | done | with_reducible rfl)
                  try simp only [Act.put, List.setIfInBounds_toArray, List.set_cons_zero, List.set_cons_succ]
                  refine wpAnyH_take (i := 3) (oi := { dst := some 134, op := Op.binOp BinOp.gtr 3 (Operand.tmp 131) (Operand.tmp 133) 3, type := 4, pos := "outright.go:103", after := #[{ on := 0, ground := Ground.data }, { on := 2, ground := Ground.data }], guard := none }) (v := ?_) rfl (by kernel_rfl) (by kernel_rfl) (by kernel_rfl) (fun _ _ _ h => h) (Or.inl ⟨by rfl, ?_⟩) (by assumption) ?_
                  rotate_left
                  · (intro w hSw; (try dsimp only at hSw); go_simp; first | done | with_reducible rfl)
                  try simp only [Act.put, List.setIfInBounds_toArray, List.set_cons_zero, List.set_cons_succ]
                  refine wpAnyH_take (i := 4) (oi := { dst := some 135, op := Op.move (Operand.tmp 134), type := 4, pos := "outright.go:103", after := #[{ on := 3, ground := Ground.data }], guard := none }) (v := ?_) rfl (by kernel_rfl) (by kernel_rfl) (by kernel_rfl) (fun _ _ _ h => h) (Or.inl ⟨by rfl, ?_⟩) (by assumption) ?_
                  rotate_left
                  · (intro w hSw; (try dsimp only at hSw); go_simp; first | done | with_reducible rfl)
                  try simp only [Act.put, List.setIfInBounds_toArray, List.set_cons_zero, List.set_cons_succ]
                  refine wpAnyH_take (i := 5) (oi := { dst := some 136, op := Op.load 23 (Operand.tmp 16), type := 23, pos := "outright.go:103", after := #[{ on := 4, ground := Ground.guard }], guard := some (4, false) }) (v := ?_) rfl (by kernel_rfl) (by kernel_rfl) (by kernel_rfl) (fun _ _ _ h => h) (Or.inl ⟨by rfl, ?_⟩) (by assumption) ?_
                  rotate_left
                  · (intro w hSw; (try dsimp only at hSw); go_simp; first | done | with_reducible rfl)
                  try simp only [Act.put, List.setIfInBounds_toArray, List.set_cons_zero, List.set_cons_succ]
                  refine wpAnyH_take (i := 7) (oi := { dst := some 138, op := Op.move (Operand.tmp 18), type := 48, pos := "outright.go:103", after := #[{ on := 4, ground := Ground.guard }], guard := some (4, false) }) (v := ?_) rfl (by kernel_rfl) (by kernel_rfl) (by kernel_rfl) (fun _ _ _ h => h) (Or.inl ⟨by rfl, ?_⟩) (by assumption) ?_
                  rotate_left
                  · (intro w hSw; (try dsimp only at hSw); go_simp; first | done | with_reducible rfl)
                  try simp only [Act.put, List.setIfInBounds_toArray, List.set_cons_zero, List.set_cons_succ]
                  refine wpAnyH_take (i := 8) (oi := { dst := some 139, op := Op.move (Operand.tmp 18), type := 48, pos := "outright.go:103", after := #[{ on := 4, ground := Ground.guard }], guard := some (4, false) }) (v := ?_) rfl (by kernel_rfl) (by kernel_rfl) (by kernel_rfl) (fun _ _ _ h => h) (Or.inl ⟨by rfl, ?_⟩) (by assumption) ?_
                  rotate_left
                  · (intro w hSw; (try dsimp only at hSw); go_simp; first | done | with_reducible rfl)
                  try simp only [Act.put, List.setIfInBounds_toArray, List.set_cons_zero, List.set_cons_succ]
                  refine wpAnyH_take (i := 9) (oi := { dst := some 140, op := Op.call { callee := Callee.builtin Builtin.len, args := #[Operand.tmp 139], argTypes := #[48] }, type := 3, pos := "outright.go:103", after := #[{ on := 8, ground := Ground.data }, { on := 4, ground := Ground.guard }], guard := some (4, false) }) (v := ?_) rfl (by kernel_rfl) (by kernel_rfl) (by kernel_rfl) (fun _ _ _ h => h) (Or.inl ⟨by rfl, ?_⟩) (by assumption) ?_
                  rotate_left
                  · (intro w hSw; (try dsimp only at hSw); go_simp; first | done | with_reducible rfl)
                  try simp only [Act.put, List.setIfInBounds_toArray, List.set_cons_zero, List.set_cons_succ]
                  refine wpAnyH_take (i := 10) (oi := { dst := some 141, op := Op.load 3 (Operand.tmp 3), type := 3, pos := "outright.go:103", after := #[{ on := 4, ground := Ground.guard }], guard := some (4, false) }) (v := ?_) rfl (by kernel_rfl) (by kernel_rfl) (by kernel_rfl) (fun _ _ _ h => h) (Or.inl ⟨by rfl, ?_⟩) (by assumption) ?_
                  rotate_left
                  · (intro w hSw; (try dsimp only at hSw); go_simp; first | done | with_reducible rfl)
                  try simp only [Act.put, List.setIfInBounds_toArray, List.set_cons_zero, List.set_cons_succ]
                  refine wpAnyH_take (i := 11) (oi := { dst := some 142, op := Op.binOp BinOp.sub 3 (Operand.tmp 140) (Operand.tmp 141) 3, type := 3, pos := "outright.go:103", after := #[{ on := 9, ground := Ground.data }, { on := 10, ground := Ground.data }, { on := 4, ground := Ground.guard }], guard := some (4, false) }) (v := ?_) rfl (by kernel_rfl) (by kernel_rfl) (by kernel_rfl) (fun _ _ _ h => h) (Or.inl ⟨by rfl, ?_⟩) (by assumption) ?_
                  rotate_left
                  · (intro w hSw; (try dsimp only at hSw); go_simp; first | done | with_reducible rfl)
                  try simp only [Act.put, List.setIfInBounds_toArray, List.set_cons_zero, List.set_cons_succ]
                  refine wpAnyH_take (i := 12) (oi := { dst := some 143, op := Op.slice 48 (Operand.tmp 138) (some (Operand.tmp 142)) none none, type := 48, pos := "outright.go:103", after := #[{ on := 7, ground := Ground.data }, { on := 11, ground := Ground.data }, { on := 4, ground := Ground.guard }], guard := some (4, false) }) (v := ?_) rfl (by kernel_rfl) (by kernel_rfl) (by kernel_rfl) (fun _ _ _ h => h) (Or.inl ⟨by rfl, ?_⟩) (by assumption) ?_
                  rotate_left
                  · (intro w hSw; (try dsimp only at hSw); go_simp; first | done | with_reducible rfl)
                  try simp only [Act.put, List.setIfInBounds_toArray, List.set_cons_zero, List.set_cons_succ]
                  refine wpAnyH_ready (rs := [6]) (by kernel_rfl) (by simp) ?_
                  refine AllReadyH.cons (o := { dst := some 137, op := Op.call { callee := Callee.value (Operand.func 55), args := #[Operand.tmp 136], argTypes := #[23] }, type := 48, pos := "outright.go:103", after := #[{ on := 5, ground := Ground.data }, { on := 4, ground := Ground.chain }, { on := 4, ground := Ground.guard }], guard := some (4, false) }) rfl (fun K hK => ?_) AllReadyH.nil
                  go_simp
                  refine (sorted_any a b c _ HT S5.out).mono ?_
                  rintro e u1 ⟨va, rfl, oa, hb⟩
                  have hb : Below w10.heap.size w10 u1 := ⟨hb.os, hb.tape, hb.output, hb.size, hb.block⟩
                  have M1 := Lib.hid (M10.out.keep hb)
                  have os := Lib.hid (owns_below os.out hb)
                  have zn := M1.out.nz
                  have zt := Nat.lt_of_lt_of_le zt hb.size
                  go_wp2_with fail
                  refine hK.out _ _ ?_ (fun hHeld6 => ?_)
                  · (obtain ⟨q0, q1, q2, q3⟩ := hHeld; exact ⟨(hb.cell (p := ⟨tb, 0, none⟩) (by first | (simp; done) | (simp; omega))).trans q0, (hb.cell (p := ⟨tb, 1, none⟩) (by first | (simp; done) | (simp; omega))).trans q1, (hb.cell (p := ⟨tb, 2, none⟩) (by first | (simp; done) | (simp; omega))).trans q2, (hb.cell (p := ⟨w.heap.size + 1, 0, none⟩) (by first | (simp; done) | (simp; omega))).trans q3⟩)
                  clear hK K hHeld
                  have hHeld := hHeld6
                  clear hHeld6
                  try simp only [Act.put, List.setIfInBounds_toArray, List.set_cons_zero, List.set_cons_succ]
                  refine wpAnyH_ready (rs := [13]) (by kernel_rfl) (by simp) ?_
                  refine AllReadyH.cons (o := { dst := some 144, op := Op.call { callee := Callee.value (Operand.func 52), args := #[Operand.tmp 137, Operand.tmp 143], argTypes := #[48, 48] }, type := 4, pos := "outright.go:103", after := #[{ on := 6, ground := Ground.data }, { on := 12, ground := Ground.data }, { on := 6, ground := Ground.chain }, { on := 4, ground := Ground.guard }], guard := some (4, false) }) rfl (fun K hK => ?_) AllReadyH.nil
                  go_simp
                  refine (equal_tail va ad c' gs _ _ cs N m (srt (numsL l h s)) (srt (numsL a b c)) _ (by rw [srt_length]; have e := oa.out; rw [srt_length] at e; exact e) os.out SW.out mN HN.out HAD.out (by omega)).mono ?_
                  rintro e u2 ⟨rfl, hb2⟩
                  have M2 := Lib.hid (M1.out.keep hb2)
                  have zn := M2.out.nz
                  have zt := Nat.lt_of_lt_of_le zt hb2.size
                  go_wp2_with fail
                  refine hK.out _ _ ?_ (fun hHeld13 => ?_)
                  · (obtain ⟨q0, q1, q2, q3⟩ := hHeld; exact ⟨(hb2.cell (p := ⟨tb, 0, none⟩) (by first | (simp; done) | (simp; omega))).trans q0, (hb2.cell (p := ⟨tb, 1, none⟩) (by first | (simp; done) | (simp; omega))).trans q1, (hb2.cell (p := ⟨tb, 2, none⟩) (by first | (simp; done) | (simp; omega))).trans q2, (hb2.cell (p := ⟨w.heap.size + 1, 0, none⟩) (by first | (simp; done) | (simp; omega))).trans q3⟩)
                  clear hK K hHeld
                  have hHeld := hHeld13
                  clear hHeld13
                  try simp only [Act.put, List.setIfInBounds_toArray, List.set_cons_zero, List.set_cons_succ]
                  refine wpAnyH_take (i := 14) (oi := { dst := some 145, op := Op.unOp UnOp.not 4 (Operand.tmp 144), type := 4, pos := "outright.go:103", after := #[{ on := 13, ground := Ground.data }, { on := 4, ground := Ground.guard }], guard := some (4, false) }) (v := ?_) rfl (by kernel_rfl) (by kernel_rfl) (by kernel_rfl) (fun _ _ _ h => h) (Or.inl ⟨by rfl, ?_⟩) (by assumption) ?_
                  rotate_left
                  · (intro w hSw; (try dsimp only at hSw); go_simp; first | done | with_reducible rfl)
                  try simp only [Act.put, List.setIfInBounds_toArray, List.set_cons_zero, List.set_cons_succ]
                  refine wpAnyH_take (i := 15) (oi := { dst := some 146, op := Op.pick (Operand.tmp 135) (Operand.const (Value.bool true)) (Operand.tmp 145), type := 4, pos := "outright.go:103", after := #[{ on := 4, ground := Ground.data }, { on := 14, ground := Ground.data }], guard := none }) (v := ?_) rfl (by kernel_rfl) (by kernel_rfl) (by kernel_rfl) (fun _ _ _ h => h) (Or.inl ⟨by rfl, ?_⟩) (by assumption) ?_
                  rotate_left
                  · (intro w hSw; (try dsimp only at hSw); go_simp; first | done | with_reducible rfl)
                  try simp only [Act.put, List.setIfInBounds_toArray, List.set_cons_zero, List.set_cons_succ]
                  refine wpAnyH_done (by kernel_rfl) ?_ _
                  clear hHeld xn y0 y1 y2
                  go_wp2_with fail
                  go_meet
                  exact M2
                · have nl : ((numsL l h s).length : Int) < n := by have := LN.out; omega
                  have nl2 : ¬ n ≤ ((numsL l h s).length : Int) := by omega
                  have xn := M8.out.n0
                  clear hE big
                  go_wp2_with fail
                  go_meet
                  exact M8
              case rest =>
                clear M8 T8 hE
                have M9 := hcut
                clear hcut
                have x0 := M9.out.a.c0
                have x1 := M9.out.a.c1
                have x2 := M9.out.a.c2
                have zr := M9.out.a.size
                have zn := M9.out.nz
                have xn := M9.out.n0
                go_wp2_with fail
                refine (ext_any _ _ _ _ _ HC.out le (by omega) (by omega)).mono ?_
                rintro e w10 ⟨a, b, c, er, rfl, hb10, hE⟩
                have M10 := Lib.hid ((M9.out.keep hb10).keep (below_new w10 (.cells #[.int .i64 a, .int .i64 b, .int .i64 c] 23)))
                have T10 := Lib.hid (B3.new (.int .i64 a) (.int .i64 b) (.int .i64 c) 23 w10)
                clear hb10 M9
                clear x0 x1 x2 zr zn xn
                go_upto_if 162 with (fail)
                generalize w10.alloc (.cells #[.int .i64 a, .int .i64 b, .int .i64 c] 23) = w11 at *
                generalize w10.heap.size = tb at *
                go_cut [4] (fun _ wx => Hid (MSt w l h s n base g cap (numsL l h s) wx))
                case first =>
                  rcases hE.out with ⟨rfl, hP⟩ | rfl
                  · have HT := Lib.hid hP.1
                    have ST1 := Lib.hid hP.2.1
                    have NO := Lib.hid hP.2.2.1
                    have HU := Lib.hid hP.2.2.2
                    clear hP hE
                    have bT := chk_bounds HT.out
                    have x0 := M10.out.a.c0
                    have x1 := M10.out.a.c1
                    have x2 := M10.out.a.c2
                    have zr := M10.out.a.size
                    have zn := M10.out.nz
                    have xn := M10.out.n0
                    have y0 := T10.out.c0
                    have y1 := T10.out.c1
                    have y2 := T10.out.c2
                    have zt := T10.out.size
                    go_wp2_with fail
                    refine (Intersect_ok _ _ _ _ _ _ _ HT HC).mono ?_
                    rintro e w12 ⟨p0, p1, p2, hI, rfl, hb12⟩
                    have M12 := Lib.hid ((M10.out.keep hb12).keep (below_new w12 (.cells #[.int .i64 p0, .int .i64 p1, .int .i64 p2] 23)))
                    have T12 := Lib.hid ((T10.out.keep hb12).keep (below_new w12 (.cells #[.int .i64 p0, .int .i64 p1, .int .i64 p2] 23)))
                    have P12 := Lib.hid (B3.new (.int .i64 p0) (.int .i64 p1) (.int .i64 p2) 23 w12)
                    have bP := chk_bounds hI.1
                    have PZ : Hid (siz p0 p1 p2 = 0) := Lib.hid (by
                      by_cases c : p0 ≤ p1
                      · exact absurd ((hI.2 p0).1 (rmem_lo c)) (NO.out p0)
                      · exact empty_a hI.1 c)
                    clear hb12 hI M10 T10 NO y0 y1 y2 zt
                    clear x0 x1 x2 zr zn xn
                    go_upto_region 27 with fail
                    generalize w12.alloc (.cells #[.int .i64 p0, .int .i64 p1, .int .i64 p2] 23) = w13 at *
                    generalize w12.heap.size = pb at *
                    have x0 := M12.out.a.c0
                    have x1 := M12.out.a.c1
                    have x2 := M12.out.a.c2
                    have zr := M12.out.a.size
                    have zn := M12.out.nz
                    have xn := M12.out.n0
                    have y0 := T12.out.c0
                    have y1 := T12.out.c1
                    have y2 := T12.out.c2
                    have zt := T12.out.size
                    have zp := P12.out.size
                    go_wp2_with fail
                    refine (Hull_ok _ _ _ _ _ _ _ HT HC).mono ?_
                    rintro e w14 ⟨q0, q1, q2, hH, rfl, hb14⟩
                    have M14 := Lib.hid ((M12.out.keep hb14).keep (below_new w14 (.cells #[.int .i64 q0, .int .i64 q1, .int .i64 q2] 23)))
                    have T14 := Lib.hid ((T12.out.keep hb14).keep (below_new w14 (.cells #[.int .i64 q0, .int .i64 q1, .int .i64 q2] 23)))
                    have P14 := Lib.hid ((P12.out.keep hb14).keep (below_new w14 (.cells #[.int .i64 q0, .int .i64 q1, .int .i64 q2] 23)))
                    have Q14 := Lib.hid (B3.new (.int .i64 q0) (.int .i64 q1) (.int .i64 q2) 23 w14)
                    have bQ := chk_bounds hH.1
                    have QZ : Hid (siz q0 q1 q2 = n + ((numsL l h s).length : Int)) := Lib.hid (by rw [HU.out q0 q1 q2 hH, LN.out]; omega)
                    clear hb14 hH HU M12 T12 P12 y0 y1 y2 zt zp
                    clear x0 x1 x2 zr zn xn
                    go_upto_region 28 with fail
                    generalize w14.alloc (.cells #[.int .i64 q0, .int .i64 q1, .int .i64 q2] 23) = w15 at *
                    generalize w14.heap.size = qb at *
                    have xn := M14.out.n0
                    have y0 := T14.out.c0
                    have y1 := T14.out.c1
                    have y2 := T14.out.c2
                    have v0 := P14.out.c0
                    have v1 := P14.out.c1
                    have v2 := P14.out.c2
                    have u0 := Q14.out.c0
                    have u1 := Q14.out.c1
                    have u2 := Q14.out.c2
                    have zn := M14.out.nz
                    have zt := T14.out.size
                    have zp := P14.out.size
                    have zq := Q14.out.size
                    have j3 : IntKind.i64.wrap (n + ((numsL l h s).length : Int)) = n + ((numsL l h s).length : Int) := IntWalk.i64_in _ (by omega)
                    clear z0' z1 m1
                    refine wp_region_held_drew (S := (fun w' => w'.cell? ⟨pb, 0, none⟩ = some (.int .i64 p0) ∧ w'.cell? ⟨pb, 1, none⟩ = some (.int .i64 p1) ∧ w'.cell? ⟨pb, 2, none⟩ = some (.int .i64 p2) ∧ w'.cell? ⟨tb, 0, none⟩ = some (.int .i64 a) ∧ w'.cell? ⟨tb, 1, none⟩ = some (.int .i64 b) ∧ w'.cell? ⟨tb, 2, none⟩ = some (.int .i64 c) ∧ w'.cell? ⟨qb, 0, none⟩ = some (.int .i64 q0) ∧ w'.cell? ⟨qb, 1, none⟩ = some (.int .i64 q1) ∧ w'.cell? ⟨qb, 2, none⟩ = some (.int .i64 q2) ∧ w'.cell? ⟨w.heap.size + 1, 0, none⟩ = some (.int .i64 n))) (by kernel_rfl) ?_ (fun hHeld => ?_)
                    · first | exact hHeld | exact ⟨v0, v1, v2, y0, y1, y2, u0, u1, u2, xn⟩ | (simp [go_sem, *]; done) | go_keep
                    refine wpAnyH_take (i := 0) (oi := { dst := some 175, op := Op.move (Operand.tmp 22), type := 24, pos := "outright.go:112", after := #[], guard := none }) (v := ?_) rfl (by kernel_rfl) (by kernel_rfl) (by kernel_rfl) (fun _ _ _ h => h) (Or.inl ⟨by rfl, ?_⟩) (by assumption) ?_
                    rotate_left
                    · (intro w hSw; (try dsimp only at hSw); go_simp; first | done | with_reducible rfl)
                    try simp only [Act.put, List.setIfInBounds_toArray, List.set_cons_zero, List.set_cons_succ]
                    refine wpAnyH_take (i := 1) (oi := { dst := some 176, op := Op.binOp BinOp.neq 24 (Operand.tmp 175) (Operand.const (Value.int IntKind.i64 0)) 24, type := 4, pos := "outright.go:112", after := #[{ on := 0, ground := Ground.data }], guard := none }) (v := ?_) rfl (by kernel_rfl) (by kernel_rfl) (by kernel_rfl) (fun _ _ _ h => h) (Or.inl ⟨by rfl, ?_⟩) (by assumption) ?_
                    rotate_left
                    · (intro w hSw; (try dsimp only at hSw); go_simp; first | done | with_reducible rfl)
                    try simp only [Act.put, List.setIfInBounds_toArray, List.set_cons_zero, List.set_cons_succ]
                    refine wpAnyH_take (i := 2) (oi := { dst := some 177, op := Op.move (Operand.tmp 176), type := 4, pos := "outright.go:112", after := #[{ on := 1, ground := Ground.data }], guard := none }) (v := ?_) rfl (by kernel_rfl) (by kernel_rfl) (by kernel_rfl) (fun _ _ _ h => h) (Or.inl ⟨by rfl, ?_⟩) (by assumption) ?_
                    rotate_left
                    · (intro w hSw; (try dsimp only at hSw); go_simp; first | done | with_reducible rfl)
                    try simp only [Act.put, List.setIfInBounds_toArray, List.set_cons_zero, List.set_cons_succ]
                    refine wpAnyH_take (i := 3) (oi := { dst := some 178, op := Op.move (Operand.tmp 24), type := 24, pos := "outright.go:112", after := #[{ on := 2, ground := Ground.guard }], guard := some (2, false) }) (v := ?_) rfl (by kernel_rfl) (by kernel_rfl) (by kernel_rfl) (fun _ _ _ h => h) (Or.inl ⟨by rfl, ?_⟩) (by assumption) ?_
                    rotate_left
                    · (intro w hSw; (try dsimp only at hSw); go_simp; first | done | with_reducible rfl)
                    try simp only [Act.put, List.setIfInBounds_toArray, List.set_cons_zero, List.set_cons_succ]
                    refine wpAnyH_take (i := 4) (oi := { dst := some 179, op := Op.binOp BinOp.neq 24 (Operand.tmp 178) (Operand.const (Value.int IntKind.i64 0)) 24, type := 4, pos := "outright.go:112", after := #[{ on := 3, ground := Ground.data }, { on := 2, ground := Ground.guard }], guard := some (2, false) }) (v := ?_) rfl (by kernel_rfl) (by kernel_rfl) (by kernel_rfl) (fun _ _ _ h => h) (Or.inl ⟨by rfl, ?_⟩) (by assumption) ?_
                    rotate_left
                    · (intro w hSw; (try dsimp only at hSw); go_simp; first | done | with_reducible rfl)
                    try simp only [Act.put, List.setIfInBounds_toArray, List.set_cons_zero, List.set_cons_succ]
                    refine wpAnyH_take (i := 5) (oi := { dst := some 180, op := Op.pick (Operand.tmp 177) (Operand.const (Value.bool true)) (Operand.tmp 179), type := 4, pos := "outright.go:112", after := #[{ on := 2, ground := Ground.data }, { on := 4, ground := Ground.data }], guard := none }) (v := ?_) rfl (by kernel_rfl) (by kernel_rfl) (by kernel_rfl) (fun _ _ _ h => h) (Or.inl ⟨by rfl, ?_⟩) (by assumption) ?_
                    rotate_left
                    · (intro w hSw; (try dsimp only at hSw); go_simp; first | done | with_reducible rfl)
                    try simp only [Act.put, List.setIfInBounds_toArray, List.set_cons_zero, List.set_cons_succ]
                    refine wpAnyH_take (i := 6) (oi := { dst := some 181, op := Op.move (Operand.tmp 180), type := 4, pos := "outright.go:112", after := #[{ on := 5, ground := Ground.data }, { on := 2, ground := Ground.chain }], guard := none }) (v := ?_) rfl (by kernel_rfl) (by kernel_rfl) (by kernel_rfl) (fun _ _ _ h => h) (Or.inl ⟨by rfl, ?_⟩) (by assumption) ?_
                    rotate_left
                    · (intro w hSw; (try dsimp only at hSw); go_simp; first | done | with_reducible rfl)
                    try simp only [Act.put, List.setIfInBounds_toArray, List.set_cons_zero, List.set_cons_succ]
                    refine wpAnyH_take (i := 7) (oi := { dst := some 182, op := Op.load 23 (Operand.tmp 21), type := 23, pos := "outright.go:112", after := #[{ on := 6, ground := Ground.guard }], guard := some (6, false) }) (v := ?_) rfl (by kernel_rfl) (by kernel_rfl) (by kernel_rfl) (fun _ _ _ h => h) (Or.inl ⟨by rfl, ?_⟩) (by assumption) ?_
                    rotate_left
                    · (intro w hSw; (try dsimp only at hSw); go_simp; first | done | with_reducible rfl)
                    try simp only [Act.put, List.setIfInBounds_toArray, List.set_cons_zero, List.set_cons_succ]
                    refine wpAnyH_ready (rs := [8]) (by kernel_rfl) (by simp) ?_
                    refine AllReadyH.cons (o := { dst := some 183, op := Op.call { callee := Callee.value (Operand.func 23), args := #[Operand.tmp 182], argTypes := #[23] }, type := 3, pos := "outright.go:112", after := #[{ on := 7, ground := Ground.data }, { on := 6, ground := Ground.chain }, { on := 6, ground := Ground.guard }], guard := some (6, false) }) rfl (fun K hK => ?_) AllReadyH.nil
                    go_simp
                    refine (size_val p0 p1 p2 0 _ ⟨by omega, by omega⟩ ⟨by omega, by omega⟩ ⟨by omega, by omega⟩ PZ.out).mono ?_
                    rintro e r1 ⟨rfl, hb⟩
                    have hb : Below w15.heap.size w15 r1 := ⟨hb.os, hb.tape, hb.output, hb.size, hb.block⟩
                    have M1 := Lib.hid (M14.out.keep hb)
                    have zn := M1.out.nz
                    have zt := Nat.lt_of_lt_of_le zt hb.size
                    have zp := Nat.lt_of_lt_of_le zp hb.size
                    have zq := Nat.lt_of_lt_of_le zq hb.size
                    go_wp2_with fail
                    refine hK.out _ _ ?_ (fun hHeld8 => ?_)
                    · (obtain ⟨q0, q1, q2, q3, q4, q5, q6, q7, q8, q9⟩ := hHeld; exact ⟨(hb.cell (p := ⟨pb, 0, none⟩) (by first | (simp; done) | (simp; omega))).trans q0, (hb.cell (p := ⟨pb, 1, none⟩) (by first | (simp; done) | (simp; omega))).trans q1, (hb.cell (p := ⟨pb, 2, none⟩) (by first | (simp; done) | (simp; omega))).trans q2, (hb.cell (p := ⟨tb, 0, none⟩) (by first | (simp; done) | (simp; omega))).trans q3, (hb.cell (p := ⟨tb, 1, none⟩) (by first | (simp; done) | (simp; omega))).trans q4, (hb.cell (p := ⟨tb, 2, none⟩) (by first | (simp; done) | (simp; omega))).trans q5, (hb.cell (p := ⟨qb, 0, none⟩) (by first | (simp; done) | (simp; omega))).trans q6, (hb.cell (p := ⟨qb, 1, none⟩) (by first | (simp; done) | (simp; omega))).trans q7, (hb.cell (p := ⟨qb, 2, none⟩) (by first | (simp; done) | (simp; omega))).trans q8, (hb.cell (p := ⟨w.heap.size + 1, 0, none⟩) (by first | (simp; done) | (simp; omega))).trans q9⟩)
                    clear hK K hHeld
                    have hHeld := hHeld8
                    clear hHeld8
                    try simp only [Act.put, List.setIfInBounds_toArray, List.set_cons_zero, List.set_cons_succ]
                    refine wpAnyH_take (i := 9) (oi := { dst := some 184, op := Op.binOp BinOp.neq 3 (Operand.tmp 183) (Operand.const (Value.int IntKind.i64 0)) 3, type := 4, pos := "outright.go:112", after := #[{ on := 8, ground := Ground.data }, { on := 6, ground := Ground.guard }], guard := some (6, false) }) (v := ?_) rfl (by kernel_rfl) (by kernel_rfl) (by kernel_rfl) (fun _ _ _ h => h) (Or.inl ⟨by rfl, ?_⟩) (by assumption) ?_
                    rotate_left
                    · (intro w hSw; (try dsimp only at hSw); go_simp; first | done | with_reducible rfl)
                    try simp only [Act.put, List.setIfInBounds_toArray, List.set_cons_zero, List.set_cons_succ]
                    refine wpAnyH_take (i := 10) (oi := { dst := some 185, op := Op.pick (Operand.tmp 181) (Operand.const (Value.bool true)) (Operand.tmp 184), type := 4, pos := "outright.go:112", after := #[{ on := 6, ground := Ground.data }, { on := 9, ground := Ground.data }], guard := none }) (v := ?_) rfl (by kernel_rfl) (by kernel_rfl) (by kernel_rfl) (fun _ _ _ h => h) (Or.inl ⟨by rfl, ?_⟩) (by assumption) ?_
                    rotate_left
                    · (intro w hSw; (try dsimp only at hSw); go_simp; first | done | with_reducible rfl)
                    try simp only [Act.put, List.setIfInBounds_toArray, List.set_cons_zero, List.set_cons_succ]
                    refine wpAnyH_take (i := 11) (oi := { dst := some 186, op := Op.move (Operand.tmp 185), type := 4, pos := "outright.go:112", after := #[{ on := 10, ground := Ground.data }, { on := 8, ground := Ground.chain }], guard := none }) (v := ?_) rfl (by kernel_rfl) (by kernel_rfl) (by kernel_rfl) (fun _ _ _ h => h) (Or.inl ⟨by rfl, ?_⟩) (by assumption) ?_
                    rotate_left
                    · (intro w hSw; (try dsimp only at hSw); go_simp; first | done | with_reducible rfl)
                    try simp only [Act.put, List.setIfInBounds_toArray, List.set_cons_zero, List.set_cons_succ]
                    refine wpAnyH_take (i := 12) (oi := { dst := some 187, op := Op.load 23 (Operand.tmp 19), type := 23, pos := "outright.go:112", after := #[{ on := 11, ground := Ground.guard }], guard := some (11, false) }) (v := ?_) rfl (by kernel_rfl) (by kernel_rfl) (by kernel_rfl) (fun _ _ _ h => h) (Or.inl ⟨by rfl, ?_⟩) (by assumption) ?_
                    rotate_left
                    · (intro w hSw; (try dsimp only at hSw); go_simp; first | done | with_reducible rfl)
                    try simp only [Act.put, List.setIfInBounds_toArray, List.set_cons_zero, List.set_cons_succ]
                    refine wpAnyH_take (i := 14) (oi := { dst := some 189, op := Op.load 3 (Operand.tmp 3), type := 3, pos := "outright.go:112", after := #[{ on := 11, ground := Ground.guard }], guard := some (11, false) }) (v := ?_) rfl (by kernel_rfl) (by kernel_rfl) (by kernel_rfl) (fun _ _ _ h => h) (Or.inl ⟨by rfl, ?_⟩) (by assumption) ?_
                    rotate_left
                    · (intro w hSw; (try dsimp only at hSw); go_simp; first | done | with_reducible rfl)
                    try simp only [Act.put, List.setIfInBounds_toArray, List.set_cons_zero, List.set_cons_succ]
                    refine wpAnyH_ready (rs := [13]) (by kernel_rfl) (by simp) ?_
                    refine AllReadyH.cons (o := { dst := some 188, op := Op.call { callee := Callee.value (Operand.func 23), args := #[Operand.tmp 187], argTypes := #[23] }, type := 3, pos := "outright.go:112", after := #[{ on := 12, ground := Ground.data }, { on := 11, ground := Ground.chain }, { on := 11, ground := Ground.guard }], guard := some (11, false) }) rfl (fun K hK => ?_) AllReadyH.nil
                    go_simp
                    refine (size_val a b c n _ ⟨by omega, by omega⟩ ⟨by omega, by omega⟩ ⟨by omega, by omega⟩ ST1.out).mono ?_
                    rintro e r2 ⟨rfl, hb2⟩
                    have M2 := Lib.hid (M1.out.keep hb2)
                    have zn := M2.out.nz
                    have zt := Nat.lt_of_lt_of_le zt hb2.size
                    have zp := Nat.lt_of_lt_of_le zp hb2.size
                    have zq := Nat.lt_of_lt_of_le zq hb2.size
                    go_wp2_with fail
                    refine hK.out _ _ ?_ (fun hHeld13 => ?_)
                    · (obtain ⟨q0, q1, q2, q3, q4, q5, q6, q7, q8, q9⟩ := hHeld; exact ⟨(hb2.cell (p := ⟨pb, 0, none⟩) (by first | (simp; done) | (simp; omega))).trans q0, (hb2.cell (p := ⟨pb, 1, none⟩) (by first | (simp; done) | (simp; omega))).trans q1, (hb2.cell (p := ⟨pb, 2, none⟩) (by first | (simp; done) | (simp; omega))).trans q2, (hb2.cell (p := ⟨tb, 0, none⟩) (by first | (simp; done) | (simp; omega))).trans q3, (hb2.cell (p := ⟨tb, 1, none⟩) (by first | (simp; done) | (simp; omega))).trans q4, (hb2.cell (p := ⟨tb, 2, none⟩) (by first | (simp; done) | (simp; omega))).trans q5, (hb2.cell (p := ⟨qb, 0, none⟩) (by first | (simp; done) | (simp; omega))).trans q6, (hb2.cell (p := ⟨qb, 1, none⟩) (by first | (simp; done) | (simp; omega))).trans q7, (hb2.cell (p := ⟨qb, 2, none⟩) (by first | (simp; done) | (simp; omega))).trans q8, (hb2.cell (p := ⟨w.heap.size + 1, 0, none⟩) (by first | (simp; done) | (simp; omega))).trans q9⟩)
                    clear hK K hHeld
                    have hHeld := hHeld13
                    clear hHeld13
                    try simp only [Act.put, List.setIfInBounds_toArray, List.set_cons_zero, List.set_cons_succ]
                    refine wpAnyH_take (i := 15) (oi := { dst := some 190, op := Op.binOp BinOp.neq 3 (Operand.tmp 188) (Operand.tmp 189) 3, type := 4, pos := "outright.go:112", after := #[{ on := 13, ground := Ground.data }, { on := 14, ground := Ground.data }, { on := 11, ground := Ground.guard }], guard := some (11, false) }) (v := ?_) rfl (by kernel_rfl) (by kernel_rfl) (by kernel_rfl) (fun _ _ _ h => h) (Or.inl ⟨by rfl, ?_⟩) (by assumption) ?_
                    rotate_left
                    · (intro w hSw; (try dsimp only at hSw); go_simp; first | done | with_reducible rfl)
                    try simp only [Act.put, List.setIfInBounds_toArray, List.set_cons_zero, List.set_cons_succ]
                    refine wpAnyH_take (i := 16) (oi := { dst := some 191, op := Op.pick (Operand.tmp 186) (Operand.const (Value.bool true)) (Operand.tmp 190), type := 4, pos := "outright.go:112", after := #[{ on := 11, ground := Ground.data }, { on := 15, ground := Ground.data }], guard := none }) (v := ?_) rfl (by kernel_rfl) (by kernel_rfl) (by kernel_rfl) (fun _ _ _ h => h) (Or.inl ⟨by rfl, ?_⟩) (by assumption) ?_
                    rotate_left
                    · (intro w hSw; (try dsimp only at hSw); go_simp; first | done | with_reducible rfl)
                    try simp only [Act.put, List.setIfInBounds_toArray, List.set_cons_zero, List.set_cons_succ]
                    refine wpAnyH_take (i := 17) (oi := { dst := some 192, op := Op.move (Operand.tmp 191), type := 4, pos := "outright.go:112", after := #[{ on := 16, ground := Ground.data }, { on := 13, ground := Ground.chain }], guard := none }) (v := ?_) rfl (by kernel_rfl) (by kernel_rfl) (by kernel_rfl) (fun _ _ _ h => h) (Or.inl ⟨by rfl, ?_⟩) (by assumption) ?_
                    rotate_left
                    · (intro w hSw; (try dsimp only at hSw); go_simp; first | done | with_reducible rfl)
                    try simp only [Act.put, List.setIfInBounds_toArray, List.set_cons_zero, List.set_cons_succ]
                    refine wpAnyH_take (i := 18) (oi := { dst := some 193, op := Op.load 23 (Operand.tmp 23), type := 23, pos := "outright.go:112", after := #[{ on := 17, ground := Ground.guard }], guard := some (17, false) }) (v := ?_) rfl (by kernel_rfl) (by kernel_rfl) (by kernel_rfl) (fun _ _ _ h => h) (Or.inl ⟨by rfl, ?_⟩) (by assumption) ?_
                    rotate_left
                    · (intro w hSw; (try dsimp only at hSw); go_simp; first | done | with_reducible rfl)
                    try simp only [Act.put, List.setIfInBounds_toArray, List.set_cons_zero, List.set_cons_succ]
                    refine wpAnyH_take (i := 20) (oi := { dst := some 195, op := Op.load 3 (Operand.tmp 3), type := 3, pos := "outright.go:112", after := #[{ on := 17, ground := Ground.guard }], guard := some (17, false) }) (v := ?_) rfl (by kernel_rfl) (by kernel_rfl) (by kernel_rfl) (fun _ _ _ h => h) (Or.inl ⟨by rfl, ?_⟩) (by assumption) ?_
                    rotate_left
                    · (intro w hSw; (try dsimp only at hSw); go_simp; first | done | with_reducible rfl)
                    try simp only [Act.put, List.setIfInBounds_toArray, List.set_cons_zero, List.set_cons_succ]
                    refine wpAnyH_take (i := 21) (oi := { dst := some 196, op := Op.move (Operand.tmp 5), type := 48, pos := "outright.go:112", after := #[{ on := 17, ground := Ground.guard }], guard := some (17, false) }) (v := ?_) rfl (by kernel_rfl) (by kernel_rfl) (by kernel_rfl) (fun _ _ _ h => h) (Or.inl ⟨by rfl, ?_⟩) (by assumption) ?_
                    rotate_left
                    · (intro w hSw; (try dsimp only at hSw); go_simp; first | done | with_reducible rfl)
                    try simp only [Act.put, List.setIfInBounds_toArray, List.set_cons_zero, List.set_cons_succ]
                    refine wpAnyH_take (i := 22) (oi := { dst := some 197, op := Op.call { callee := Callee.builtin Builtin.len, args := #[Operand.tmp 196], argTypes := #[48] }, type := 3, pos := "outright.go:112", after := #[{ on := 21, ground := Ground.data }, { on := 17, ground := Ground.guard }], guard := some (17, false) }) (v := ?_) rfl (by kernel_rfl) (by kernel_rfl) (by kernel_rfl) (fun _ _ _ h => h) (Or.inl ⟨by rfl, ?_⟩) (by assumption) ?_
                    rotate_left
                    · (intro w hSw; (try dsimp only at hSw); go_simp; first | done | with_reducible rfl)
                    try simp only [Act.put, List.setIfInBounds_toArray, List.set_cons_zero, List.set_cons_succ]
                    refine wpAnyH_take (i := 23) (oi := { dst := some 198, op := Op.binOp BinOp.add 3 (Operand.tmp 195) (Operand.tmp 197) 3, type := 3, pos := "outright.go:112", after := #[{ on := 20, ground := Ground.data }, { on := 22, ground := Ground.data }, { on := 17, ground := Ground.guard }], guard := some (17, false) }) (v := ?_) rfl (by kernel_rfl) (by kernel_rfl) (by kernel_rfl) (fun _ _ _ h => h) (Or.inl ⟨by rfl, ?_⟩) (by assumption) ?_
                    rotate_left
                    · (intro w hSw; (try dsimp only at hSw); go_simp; first | done | with_reducible rfl)
                    try simp only [Act.put, List.setIfInBounds_toArray, List.set_cons_zero, List.set_cons_succ]
                    refine wpAnyH_ready (rs := [19]) (by kernel_rfl) (by simp) ?_
                    refine AllReadyH.cons (o := { dst := some 194, op := Op.call { callee := Callee.value (Operand.func 23), args := #[Operand.tmp 193], argTypes := #[23] }, type := 3, pos := "outright.go:112", after := #[{ on := 18, ground := Ground.data }, { on := 17, ground := Ground.chain }, { on := 17, ground := Ground.guard }], guard := some (17, false) }) rfl (fun K hK => ?_) AllReadyH.nil
                    go_simp
                    refine (size_val q0 q1 q2 (n + ((numsL l h s).length : Int)) _ ⟨by omega, by omega⟩ ⟨by omega, by omega⟩ ⟨by omega, by omega⟩ QZ.out).mono ?_
                    rintro e r3 ⟨rfl, hb3⟩
                    have M3 := Lib.hid (M2.out.keep hb3)
                    have zn := M3.out.nz
                    have zt := Nat.lt_of_lt_of_le zt hb3.size
                    have zp := Nat.lt_of_lt_of_le zp hb3.size
                    have zq := Nat.lt_of_lt_of_le zq hb3.size
                    go_wp2_with fail
                    refine hK.out _ _ ?_ (fun hHeld19 => ?_)
                    · (obtain ⟨q0, q1, q2, q3, q4, q5, q6, q7, q8, q9⟩ := hHeld; exact ⟨(hb3.cell (p := ⟨pb, 0, none⟩) (by first | (simp; done) | (simp; omega))).trans q0, (hb3.cell (p := ⟨pb, 1, none⟩) (by first | (simp; done) | (simp; omega))).trans q1, (hb3.cell (p := ⟨pb, 2, none⟩) (by first | (simp; done) | (simp; omega))).trans q2, (hb3.cell (p := ⟨tb, 0, none⟩) (by first | (simp; done) | (simp; omega))).trans q3, (hb3.cell (p := ⟨tb, 1, none⟩) (by first | (simp; done) | (simp; omega))).trans q4, (hb3.cell (p := ⟨tb, 2, none⟩) (by first | (simp; done) | (simp; omega))).trans q5, (hb3.cell (p := ⟨qb, 0, none⟩) (by first | (simp; done) | (simp; omega))).trans q6, (hb3.cell (p := ⟨qb, 1, none⟩) (by first | (simp; done) | (simp; omega))).trans q7, (hb3.cell (p := ⟨qb, 2, none⟩) (by first | (simp; done) | (simp; omega))).trans q8, (hb3.cell (p := ⟨w.heap.size + 1, 0, none⟩) (by first | (simp; done) | (simp; omega))).trans q9⟩)
                    clear hK K hHeld
                    have hHeld := hHeld19
                    clear hHeld19
                    try simp only [Act.put, List.setIfInBounds_toArray, List.set_cons_zero, List.set_cons_succ]
                    refine wpAnyH_take (i := 24) (oi := { dst := some 199, op := Op.binOp BinOp.neq 3 (Operand.tmp 194) (Operand.tmp 198) 3, type := 4, pos := "outright.go:112", after := #[{ on := 19, ground := Ground.data }, { on := 23, ground := Ground.data }, { on := 17, ground := Ground.guard }], guard := some (17, false) }) (v := ?_) rfl (by kernel_rfl) (by kernel_rfl) (by kernel_rfl) (fun _ _ _ h => h) (Or.inl ⟨by rfl, ?_⟩) (by assumption) ?_
                    rotate_left
                    · (intro w hSw; (try dsimp only at hSw); go_simp; first | done | with_reducible rfl)
                    try simp only [Act.put, List.setIfInBounds_toArray, List.set_cons_zero, List.set_cons_succ]
                    refine wpAnyH_take (i := 25) (oi := { dst := some 200, op := Op.pick (Operand.tmp 192) (Operand.const (Value.bool true)) (Operand.tmp 199), type := 4, pos := "outright.go:112", after := #[{ on := 17, ground := Ground.data }, { on := 24, ground := Ground.data }], guard := none }) (v := ?_) rfl (by kernel_rfl) (by kernel_rfl) (by kernel_rfl) (fun _ _ _ h => h) (Or.inl ⟨by rfl, ?_⟩) (by assumption) ?_
                    rotate_left
                    · (intro w hSw; (try dsimp only at hSw); go_simp; first | done | with_reducible rfl)
                    try simp only [Act.put, List.setIfInBounds_toArray, List.set_cons_zero, List.set_cons_succ]
                    refine wpAnyH_done (by kernel_rfl) ?_ _
                    clear hHeld xn y0 y1 y2 v0 v1 v2 u0 u1 u2
                    go_wp2_with fail
                    go_meet
                    exact M3
                  · clear hE
                    go_wp2_with fail
                    go_meet
                    exact M10
                case rest =>
                  clear M10 T10 hE
                  have M11 := hcut
                  clear hcut
                  go_wp2_with fail
                  refine (awake_any _).mono ?_
                  rintro e w12 ⟨rfl, hb12⟩
                  have W12 := (M11.out.keep hb12).below
                  clear hb12
                  go_wp2
                  go_ret
                  exact ⟨rfl, W12⟩
end Go.Proofs.Ytdifilndpilboaa
