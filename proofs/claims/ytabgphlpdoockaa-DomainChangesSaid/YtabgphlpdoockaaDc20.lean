/-
  Part 20: RCE.
-/
import Derived.Test.YtabgphlpdoockaaDc14
import Derived.Test.YtabgphlpdoockaaDc17
import Derived.Test.YtabgphlpdoockaaDc19
import Derived.BigQuiet
import Derived.Deep.CutBlock
import Derived.Deep.DeepCutAuto
import Derived.Deep.DrawnRows
import Derived.Deep.LoopGhost
import Derived.Deep.QuietTactic
import Derived.Deep.RegionHeld3
import Derived.Deep.RegionWith
import Derived.Lib.Hide
import Derived.WalkKit
import Derived.WalkLawsBesides
import Derived.WalkSpells
namespace Go.Proofs.Ytabgphlpdoockaa
open Go.RowKit
/-- the blocks of the reference's each -/
structure VSt (w : World) (v : Value) (k s h : Int) (ob : Nat) (X : List R3) (ao : Option Addr) (cap : Nat) (wr : World) : Prop where
  below : Below w.heap.size w wr
  d : Blk w.heap.size v (.int .i64 k) (.int .i64 s) (.int .i64 h) wr
  z : Blk (w.heap.size + 1) (.slice none 0 0) (.int .i64 0) (.int .i64 0) (.int .i64 0) wr
  r : Blk ob (.slice ao X.length cap) (.int .i64 k) (.int .i64 s) (.int .i64 h) wr
  own : wr.ownsRow (ob + 1) 23 3 (.slice ao X.length cap) X.length (cells3 X)
  lt : w.heap.size + 1 < ob
theorem VSt.under {w : World} {v : Value} {k s h : Int} {ob : Nat} {X : List R3} {ao : Option Addr} {cap : Nat} {wa wb : World} {B : Nat} (t : VSt w v k s h ob X ao cap wa) (hb : Below B wa wb) (hB : ob < B)
    (hr : ∀ g, (Value.slice ao X.length cap).ownBlock = some g → g < B) : VSt w v k s h ob X ao cap wb :=
  ⟨t.below.trans (hb.mono (by have := t.lt; omega)), blk_under t.d hb (by have := t.lt; omega), blk_under t.z hb (by have := t.lt; omega), blk_under t.r hb hB, owns_under t.own hb hr, t.lt⟩
theorem VSt.keep {w : World} {v : Value} {k s h : Int} {ob : Nat} {X : List R3} {ao : Option Addr} {cap : Nat} {wa wb : World} (t : VSt w v k s h ob X ao cap wa) (hb : Below wa.heap.size wa wb) : VSt w v k s h ob X ao cap wb :=
  t.under hb t.r.size (fun g hg => (t.own.lt g hg).2)
theorem VSt.add {w : World} {v : Value} {k s h : Int} {ob : Nat} {X : List R3} {ao : Option Addr} {cap : Nat} {wa wb : World} (t : VSt w v k s h ob X ao cap wa) {ao' : Option Addr} {cap' : Nat}
    {x : R3} (own : wb.ownsRow (ob + 1) 23 3 (.slice ao' (X.length + 1) cap') (X.length + 1) (cells3 X ++ cells3 [x])) (grow : wa.grownBy wb (Value.slice ao X.length cap).ownBlock) :
    VSt w v k s h ob (X ++ [x]) ao' cap' (wb.setCell ⟨ob, 0, none⟩ (.slice ao' (X.length + 1) cap')) := by
  have B3 : Below (ob + 1) wa wb := (Below.refl _ _).grown grow (by have := t.r.size; omega) (fun g hg => (t.own.lt g hg).1)
  have e : (X ++ [x]).length = X.length + 1 := by simp
  have l := t.lt
  refine ⟨(t.below.trans (B3.mono (by omega))).setCell (by simp; omega) _, blk_else (blk_under t.d B3 (by omega)) (by omega) _, blk_else (blk_under t.z B3 (by omega)) (by omega) _, ?_, ?_, l⟩
  · rw [e]; exact blk_first (blk_under t.r B3 (by omega)) _
  · rw [e, cells3_append]
    exact ownsRow_setCell_below own (by simp) _
set_option maxRecDepth 100000 in
set_option maxHeartbeats 6400000 in
theorem refEach_Translate (g : Mv) (hg : Hid (MvOk 36 g)) (v : Value) (L : List R3) (k s h : Int) (iv : Value) (ns : List Int) (w : World) (hr : Rd w v L) (hL : Ok3 L) (hi : Ri w iv ns) (hN : Ok1 ns) :
    Calls Try.prog 148 #[.agg #[v, .int .i64 k, .int .i64 s, .int .i64 h], iv, .int .i64 0] w (DMvRet (RMv g L ns) L k s h ns w) := by
  obtain ⟨ao, cap, rfl, hc⟩ := hr
  obtain ⟨ai, ci, rfl, hci⟩ := hi
  have HR : Hid (Rd w (.slice ao L.length cap) L) := Lib.hid ⟨ao, cap, rfl, hc⟩
  have HC := Lib.hid hc
  have HIC := Lib.hid hci
  have HL := Lib.hid hL
  have HN := Lib.hid hN
  clear hc hci hL hN
  obtain ⟨i0, hi, hz0, hz1, hz2⟩ := info_parts Try.infoRange
  go_enter Try.func148, Try.ntmps148
  go_wp2_with fail
  refine (rDcheck_any _ L _ _ _ _ ((HR.out.keep (below_new _ _)).keep (below_new _ _)) HL.out).mono ?_
  rintro e w1 ⟨rfl, hb1⟩
  have R1 := res44 hb1
  have B1 := Lib.hid R1.1
  have D1 := Lib.hid R1.2.1
  have Z1 := Lib.hid R1.2.2
  clear hb1 R1
  have x0 := D1.out.c0
  have z0 := Z1.out.c0
  have z1 := Z1.out.c1
  have z2 := Z1.out.c2
  have z3 := Z1.out.c3
  have f0 := Z1.out.f0
  have f1 := Z1.out.f1
  have f2 := Z1.out.f2
  have f3 := Z1.out.f3
  by_cases c : dchk L k s h = 0
  · have c' : (dchk L k s h != 0) = false := by simp [c]
    have C := Lib.hid c
    have rk := Lib.hid (dchk_rank c)
    clear c
    by_cases ln : ns.length = L.length
    · have l' : ((ns.length : Int) != (L.length : Int)) = false := by simp [ln]
      have LN := Lib.hid ln
      obtain ⟨b, o, rfl, hb, hcell⟩ := HC.out.resolve_left (by have := rk.out; omega)
      obtain ⟨bi, oi, rfl, hbi, hicell⟩ := HIC.out.resolve_left (by have := rk.out; omega)
      have CL : Hid (At3 w b o L) := Lib.hid hcell
      have CI : Hid (At1 w bi oi ns) := Lib.hid hicell
      clear ln hcell hicell HC HIC z0 z1 z2 z3 f0 f1 f2 f3
      have x1 := D1.out.c1
      have x2 := D1.out.c2
      have x3 := D1.out.c3
      go_upto_region 7 with fail
      have Q0 : Hid (VSt w (.slice (some ⟨b, o, none⟩) L.length cap) k s h w1.heap.size [] none 0 (w1.alloc (.cells #[.slice none 0 0, .int .i64 k, .int .i64 s, .int .i64 h] 62))) := Lib.hid (by
        have nb := below_new w1 (.cells #[.slice none 0 0, .int .i64 k, .int .i64 s, .int .i64 h] 62)
        exact ⟨B1.out.trans (nb.mono B1.out.size), D1.out.keep nb, Z1.out.keep nb, Blk.new _ _ _ _ _ w1, World.ownsRow_nil _ _ _ _, Z1.out.size⟩)
      generalize w1.alloc (.cells #[.slice none 0 0, .int .i64 k, .int .i64 s, .int .i64 h] 62) = w2 at *
      generalize w1.heap.size = ob at *
      clear x0 x1 x2 x3 c' l' D1 Z1 B1
      go_wp2_with fail
      go_loopg [10, 11, 12, 41, 52, 63, 79] (L.length + 1) (fun gh v10 _ _ _ _ _ _ wr => ∃ (X : List R3) (ro : Option Addr) (rc : Nat), v10 = .int .i64 X.length ∧ (X.length ≤ L.length ∧ L.length - X.length < gh) ∧ Hid (∀ (i : Nat) (x : R3), X[i]? = some x → RMv g L ns i x 0) ∧ Hid (VSt w (.slice (some ⟨b, o, none⟩) L.length cap) k s h ob X ro rc wr))
      case atStart => exact ⟨[], none, 0, rfl, ⟨by simp, by simp⟩, Lib.hid (fun i x hx => by simp at hx), Q0⟩
      case round =>
        obtain ⟨X, ro, rc, rfl, ⟨j0, jg⟩, hz, E1⟩ := hrel
        have KG := Lib.hid jg
        clear jg
        by_cases hj : X.length < L.length
        · have jw : IntKind.i64.wrap ((X.length : Int) + 1) = (X.length : Int) + 1 := IntWalk.i64_in _ (by have := rk.out; omega)
          have n2 : (L.length : Int) ≤ 2 := by have := rk.out; omega
          have hj2 : X.length < ns.length := by have := LN.out; omega
          have m2 : (ns.length : Int) ≤ 2 := by have := LN.out; omega
          obtain ⟨x, hx⟩ : ∃ x, L[X.length]? = some x := ⟨L[X.length], List.getElem?_eq_getElem hj⟩
          obtain ⟨n, hn⟩ : ∃ n, ns[X.length]? = some n := ⟨ns[X.length], List.getElem?_eq_getElem hj2⟩
          have PX := CL.out _ x hx
          have PN := Lib.hid (CI.out _ n hn)
          have ox := HL.out x (List.mem_of_getElem? hx)
          have on := HN.out n (List.mem_of_getElem? hn)
          have FX := Lib.hid hx
          have FN := Lib.hid hn
          have p0 := (E1.out.below.cell (p := ⟨b, o + X.length * 3, none⟩) hb).trans PX.1
          have p1 := (E1.out.below.cell (p := ⟨b, o + X.length * 3 + 1, none⟩) hb).trans PX.2.1
          have p2 := (E1.out.below.cell (p := ⟨b, o + X.length * 3 + 2, none⟩) hb).trans PX.2.2
          have d0 := E1.out.d.c0
          clear hx hn PX
          go_upto_region 11 with fail
          have E2 := Lib.hid (E1.out.keep (below_new wr (.cells #[.int .i64 x.1, .int .i64 x.2.1, .int .i64 x.2.2] 23)))
          have X2 := Lib.hid (B3.new (.int .i64 x.1) (.int .i64 x.2.1) (.int .i64 x.2.2) 23 wr)
          have RL := Lib.hid (fun g hg => (E1.out.own.lt g hg).2)
          have GO := Lib.hid E1.out.r.size
          clear E1 p0 p1 p2 d0
          generalize wr.alloc (.cells #[.int .i64 x.1, .int .i64 x.2.1, .int .i64 x.2.2] 23) = w3 at *
          generalize wr.heap.size = xb at *
          go_upto_region 13 with fail
          refine wp_region_held_drew (S := (fun w' => VSt w (.slice (some ⟨b, o, none⟩) L.length cap) k s h ob X ro rc w')) (by kernel_rfl) (E2.out.keep (to_drew (Below.refl _ _))) (fun hHeld => ?_)
          have X2 := X2.out.keep (to_drew (Below.refl _ _))
          clear E2
          obtain ⟨v0, hv0⟩ : ∃ v0, v0 = w3.drew := ⟨_, rfl⟩
          rw [← hv0] at hHeld X2 ⊢
          clear hv0
          refine wpAnyH_take (i := 1) (oi := { dst := some 45, op := Op.move (Operand.tmp 1), type := 48, pos := "ref.go:178", after := #[], guard := none }) (v := ?_) rfl (by kernel_rfl) (by kernel_rfl) (by kernel_rfl) (fun _ _ _ h => h) (Or.inl ⟨by rfl, ?_⟩) (by assumption) ?_
          rotate_left
          · (intro wq hSw; (try dsimp only at hSw); have n0 := (hSw.below.cell (p := ⟨bi, oi + X.length, none⟩) hbi).trans PN.out; clear hSw; go_simp; first | done | with_reducible rfl)
          try simp only [Act.put, List.setIfInBounds_toArray, List.set_cons_zero, List.set_cons_succ]
          refine wpAnyH_take (i := 2) (oi := { dst := some 46, op := Op.move (Operand.tmp 10), type := 3, pos := "ref.go:178", after := #[], guard := none }) (v := ?_) rfl (by kernel_rfl) (by kernel_rfl) (by kernel_rfl) (fun _ _ _ h => h) (Or.inl ⟨by rfl, ?_⟩) (by assumption) ?_
          rotate_left
          · (intro wq hSw; (try dsimp only at hSw); have n0 := (hSw.below.cell (p := ⟨bi, oi + X.length, none⟩) hbi).trans PN.out; clear hSw; go_simp; first | done | with_reducible rfl)
          try simp only [Act.put, List.setIfInBounds_toArray, List.set_cons_zero, List.set_cons_succ]
          refine wpAnyH_take (i := 3) (oi := { dst := some 47, op := Op.indexAddr 48 (Operand.tmp 45) (Operand.tmp 46), type := 0, pos := "ref.go:178", after := #[{ on := 1, ground := Ground.data }, { on := 2, ground := Ground.data }], guard := none }) (v := ?_) rfl (by kernel_rfl) (by kernel_rfl) (by kernel_rfl) (fun _ _ _ h => h) (Or.inl ⟨by rfl, ?_⟩) (by assumption) ?_
          rotate_left
          · (intro wq hSw; (try dsimp only at hSw); have n0 := (hSw.below.cell (p := ⟨bi, oi + X.length, none⟩) hbi).trans PN.out; clear hSw; go_simp; first | done | with_reducible rfl)
          try simp only [Act.put, List.setIfInBounds_toArray, List.set_cons_zero, List.set_cons_succ]
          refine wpAnyH_take (i := 4) (oi := { dst := some 48, op := Op.load 3 (Operand.tmp 47), type := 3, pos := "ref.go:178", after := #[{ on := 3, ground := Ground.data }], guard := none }) (v := ?_) rfl (by kernel_rfl) (by kernel_rfl) (by kernel_rfl) (fun _ _ _ h => h) (Or.inl ⟨by rfl, ?_⟩) (by assumption) ?_
          rotate_left
          · (intro wq hSw; (try dsimp only at hSw); have n0 := (hSw.below.cell (p := ⟨bi, oi + X.length, none⟩) hbi).trans PN.out; clear hSw; go_simp; first | done | with_reducible rfl)
          try simp only [Act.put, List.setIfInBounds_toArray, List.set_cons_zero, List.set_cons_succ]
          refine wpAnyH_ready (rs := [0]) (by kernel_rfl) (by simp) ?_
          refine AllReadyH.cons (o := { dst := some 44, op := Op.load 23 (Operand.tmp 11), type := 23, pos := "ref.go:178", after := #[], guard := none }) rfl (fun K hK => ?_) AllReadyH.nil
          go_simp
          have c0 := X2.c0
          have c1 := X2.c1
          have c2 := X2.c2
          go_simp
          have hS := hHeld
          refine hK.out _ _ hS (fun hHeld => ?_)
          clear hK K hHeld
          clear c0 c1 c2
          have hHeld := hS
          clear hS
          try simp only [Act.put, List.setIfInBounds_toArray, List.set_cons_zero, List.set_cons_succ]
          refine wpAnyH_ready (rs := [5]) (by kernel_rfl) (by simp) ?_
          refine AllReadyH.cons (o := { dst := some 49, op := Op.call { callee := Callee.value (Operand.func 36), args := #[Operand.tmp 44, Operand.tmp 48], argTypes := #[23, 3] }, type := 25, pos := "ref.go:178", after := #[{ on := 0, ground := Ground.data }, { on := 4, ground := Ground.data }], guard := none }) rfl (fun K hK => ?_) AllReadyH.nil
          go_simp
          refine (hg.out x n ox.1 ox.2.1 ox.2.2 on _).mono ?_
          rintro e v2 ⟨rfl, hq⟩
          have hq : Below v0.heap.size v0 v2 := ⟨hq.os, hq.tape, hq.output, hq.size, hq.block⟩
          have hS := hHeld.keep hq
          have X2 := X2.keep hq
          go_wp2_with fail
          refine hK.out _ _ hS (fun hHeld => ?_)
          clear hK K hHeld
          clear hq
          have hHeld := hS
          clear hS
          try simp only [Act.put, List.setIfInBounds_toArray, List.set_cons_zero, List.set_cons_succ]
          refine wpAnyH_take (i := 6) (oi := { dst := some 43, op := Op.move (Operand.tmp 49), type := 25, pos := "ref.go:178", after := #[{ on := 5, ground := Ground.data }], guard := none }) (v := ?_) rfl (by kernel_rfl) (by kernel_rfl) (by kernel_rfl) (fun _ _ _ h => h) (Or.inl ⟨by rfl, ?_⟩) (by assumption) ?_
          rotate_left
          · (intro wq hSw; (try dsimp only at hSw); have n0 := (hSw.below.cell (p := ⟨bi, oi + X.length, none⟩) hbi).trans PN.out; clear hSw; go_simp; first | done | with_reducible rfl)
          try simp only [Act.put, List.setIfInBounds_toArray, List.set_cons_zero, List.set_cons_succ]
          refine wpAnyH_take (i := 7) (oi := { dst := some 50, op := Op.extract (Operand.tmp 43) 0, type := 23, pos := "ref.go:178", after := #[{ on := 6, ground := Ground.data }], guard := none }) (v := ?_) rfl (by kernel_rfl) (by kernel_rfl) (by kernel_rfl) (fun _ _ _ h => h) (Or.inl ⟨by rfl, ?_⟩) (by assumption) ?_
          rotate_left
          · (intro wq hSw; (try dsimp only at hSw); have n0 := (hSw.below.cell (p := ⟨bi, oi + X.length, none⟩) hbi).trans PN.out; clear hSw; go_simp; first | done | with_reducible rfl)
          try simp only [Act.put, List.setIfInBounds_toArray, List.set_cons_zero, List.set_cons_succ]
          refine wpAnyH_take (i := 8) (oi := { dst := some 51, op := Op.extract (Operand.tmp 43) 1, type := 24, pos := "ref.go:178", after := #[{ on := 6, ground := Ground.data }, { on := 9, ground := Ground.gcOnly Departure.lateStores }], guard := none }) (v := ?_) rfl (by kernel_rfl) (by kernel_rfl) (by kernel_rfl) (fun _ _ _ h => h) (Or.inl ⟨by rfl, ?_⟩) (by assumption) ?_
          rotate_left
          · (intro wq hSw; (try dsimp only at hSw); have n0 := (hSw.below.cell (p := ⟨bi, oi + X.length, none⟩) hbi).trans PN.out; clear hSw; go_simp; first | done | with_reducible rfl)
          try simp only [Act.put, List.setIfInBounds_toArray, List.set_cons_zero, List.set_cons_succ]
          refine wpAnyH_ready (rs := [9]) (by kernel_rfl) (by simp) ?_
          refine AllReadyH.cons (o := { dst := none, op := Op.store 23 (Operand.tmp 11) (Operand.tmp 50), type := 0, pos := "ref.go:178", after := #[{ on := 7, ground := Ground.data }, { on := 5, ground := Ground.chain }, { on := 0, ground := Ground.phase }, { on := 1, ground := Ground.phase }, { on := 2, ground := Ground.phase }, { on := 3, ground := Ground.phase }, { on := 4, ground := Ground.phase }, { on := 5, ground := Ground.phase }, { on := 6, ground := Ground.phase }, { on := 7, ground := Ground.phase }, { on := 8, ground := Ground.textOnly Departure.lateStores }], guard := none }) rfl (fun K hK => ?_) AllReadyH.nil
          go_simp
          have c0 := X2.c0
          have c1 := X2.c1
          have c2 := X2.c2
          have f0 := X2.f0
          have f1 := X2.f1
          have f2 := X2.f2
          go_simp
          have hS := hHeld.under (set3s_below (Nat.le_refl xb) (.int .i64 (g x n).1.1) (.int .i64 (g x n).1.2.1) (.int .i64 (g x n).1.2.2)) GO.out RL.out
          have X2 := X2.set (.int .i64 (g x n).1.1) (.int .i64 (g x n).1.2.1) (.int .i64 (g x n).1.2.2)
          refine hK.out _ _ hS (fun hHeld => ?_)
          clear hK K hHeld
          clear c0 c1 c2 f0 f1 f2
          change wpAnyH _ _ _ _ _ _ _ _ (set3 v2 xb (.int .i64 (g x n).1.1) (.int .i64 (g x n).1.2.1) (.int .i64 (g x n).1.2.2))
          generalize set3 v2 xb (.int .i64 (g x n).1.1) (.int .i64 (g x n).1.2.1) (.int .i64 (g x n).1.2.2) = v3 at *
          have hHeld := hS
          clear hS
          try simp only [Act.put, List.setIfInBounds_toArray, List.set_cons_zero, List.set_cons_succ]
          refine wpAnyH_take (i := 10) (oi := { dst := some 12, op := Op.assign (Operand.tmp 51), type := 24, pos := "ref.go:178", after := #[{ on := 8, ground := Ground.data }, { on := 9, ground := Ground.chain }, { on := 0, ground := Ground.phase }, { on := 1, ground := Ground.phase }, { on := 2, ground := Ground.phase }, { on := 3, ground := Ground.phase }, { on := 4, ground := Ground.phase }, { on := 5, ground := Ground.phase }, { on := 6, ground := Ground.phase }, { on := 7, ground := Ground.phase }, { on := 8, ground := Ground.phase }, { on := 9, ground := Ground.phase }], guard := none }) (v := ?_) rfl (by kernel_rfl) (by kernel_rfl) (by kernel_rfl) (fun _ _ _ h => h) (Or.inl ⟨by rfl, ?_⟩) (by assumption) ?_
          rotate_left
          · (intro wq hSw; (try dsimp only at hSw); have n0 := (hSw.below.cell (p := ⟨bi, oi + X.length, none⟩) hbi).trans PN.out; clear hSw; go_simp; first | done | with_reducible rfl)
          try simp only [Act.put, List.setIfInBounds_toArray, List.set_cons_zero, List.set_cons_succ]
          refine wpAnyH_done (by kernel_rfl) ?_ _
          have E3 := Lib.hid hHeld
          have X3 := Lib.hid X2
          clear hHeld X2
          by_cases ce : (g x n).2 = 0
          · have CE := Lib.hid ce
            have ce' : ((g x n).2 != 0) = false := by simp [ce]
            clear ce
            go_upto_region 24 with fail
            clear ce'
            have r0 := E3.out.r.c0
            have r1 := E3.out.r.c1
            have r2 := E3.out.r.c2
            have r3 := E3.out.r.c3
            have g0 := E3.out.r.f0
            have x0' := X3.out.c0
            have x1' := X3.out.c1
            have x2' := X3.out.c2
            have sz := E3.out.r.size
            have zx := X3.out.size
            go_wp2_with (first | (at_builtin; refine wpList_append_own _ rfl (.tmp 100) (.tmp 102) 40 rfl (ob + 1) 23 i0 (.agg #[.int .i64 0, .int .i64 0, .int .i64 0]) 3 24 Try.underlying40 hi hz0 hz1 hz2 rfl (by decide) _ X.length (cells3 X) rfl (E3.out.own.alloc _) ⟨v3.heap.size, 0, none⟩ 1 1 (cells3 [((g x n).1.1, (g x n).1.2.1, (g x n).1.2.2)]) rfl rfl ?c1 ?c2 ?c3 ?c4 ?c5 ?_))
            case c1 => exact World.news_of_block (cs := #[.int .i64 (g x n).1.1, .int .i64 (g x n).1.2.1, .int .i64 (g x n).1.2.2]) (t := 23) (fr := (0, 0)) (heap_alloc_new v3 _)
            case c2 => exact cells3_one _
            case c3 => unfold maxLen; omega
            case c4 => omega
            case c5 => simp; omega
            intro u' w4 own4 grow4 _
            obtain ⟨g', cap4, rfl⟩ := ownsRow_succ own4
            have E4 := Lib.hid ((E3.out.keep (below_new v3 (.cells #[.int .i64 (g x n).1.1, .int .i64 (g x n).1.2.1, .int .i64 (g x n).1.2.2] 23))).add own4 grow4)
            have B4 : Below (ob + 1) (v3.alloc (.cells #[.int .i64 (g x n).1.1, .int .i64 (g x n).1.2.1, .int .i64 (g x n).1.2.2] 23)) w4 := (Below.refl _ _).grown grow4 (by simp; omega) (fun gb hgb => (((E3.out.own.alloc (.cells #[.int .i64 (g x n).1.1, .int .i64 (g x n).1.2.1, .int .i64 (g x n).1.2.2] 23)).lt gb hgb)).1)
            have R4 := Lib.hid (blk_under (E3.out.r.keep (below_new v3 (.cells #[.int .i64 (g x n).1.1, .int .i64 (g x n).1.2.1, .int .i64 (g x n).1.2.2] 23))) B4 (by omega))
            clear own4 grow4 B4 E3 X3 r0 r1 r2 r3 g0 x0' x1' x2' sz zx
            have r0 := R4.out.c0
            have g0 := R4.out.f0
            go_wp2_with fail
            go_roundg (L.length - X.length)
            case measure => exact KG.out
            case rel => exact ⟨X ++ [((g x n).1.1, (g x n).1.2.1, (g x n).1.2.2)], _, _, by simp, ⟨by simp; omega, by simp; omega⟩, Lib.hid (fun i x hx => by
                by_cases c : i < X.length
                · rw [List.getElem?_append_left c] at hx; exact hz.out i x hx
                · rw [List.getElem?_append_right (by omega)] at hx
                  have e : i = X.length := by
                    have := (List.getElem?_eq_some_iff.1 hx).1
                    simp at this; omega
                  subst e
                  simp at hx; subst hx; exact ⟨x, n, FX.out, FN.out, by rfl, by exact CE.out.symm⟩), E4⟩
          · have CE := Lib.hid ce
            have ce' : ((g x n).2 != 0) = true := by simp [ce]
            clear ce
            have z0 := E3.out.z.f0
            have z1 := E3.out.z.f1
            have z2 := E3.out.z.f2
            have z3 := E3.out.z.f3
            have q0 := E3.out.z.c0
            have q1 := E3.out.z.c1
            have q2 := E3.out.z.c2
            have q3 := E3.out.z.c3
            go_wp2
            refine bodyPost_ret (v := .tuple #[.agg #[.slice none 0 0, .int .i64 0, .int .i64 0, .int .i64 0], .int .i64 (g x n).2]) (by simp [results, Try.results148, go_sem, *]) rfl ⟨_, _, _, _, _, rfl, ?_, ⟨_, _, _, rfl⟩, Lib.hid (Or.inr (Or.inr ⟨C.out, LN.out, Or.inr ⟨X.length, (g x n).1, hj, ⟨x, n, FX.out, FN.out, by rfl, by rfl⟩, CE.out, fun i hi => ?_, rfl, rfl, rfl, rfl⟩⟩))⟩
            · repeat (first | exact E3.out.below | refine Below.setCell ?_ (by simp; try omega) _)
            · exact ⟨X[i]'hi, hz.out i _ (List.getElem?_eq_getElem hi)⟩
        · have eL : X.length = L.length := by omega
          have hj2 : ¬ X.length < ns.length := by have := LN.out; omega
          have r0 := E1.out.r.c0
          have r1 := E1.out.r.c1
          have r2 := E1.out.r.c2
          have r3 := E1.out.r.c3
          have z0 := E1.out.z.f0
          have z1 := E1.out.z.f1
          have z2 := E1.out.z.f2
          have z3 := E1.out.z.f3
          have q0 := E1.out.z.c0
          have q1 := E1.out.z.c1
          have q2 := E1.out.z.c2
          have q3 := E1.out.z.c3
          have EL := Lib.hid eL
          clear eL
          go_wp2
          refine bodyPost_ret (v := .tuple #[.agg #[.slice ro X.length rc, .int .i64 k, .int .i64 s, .int .i64 h], .int .i64 0]) (by simp [results, Try.results148, go_sem, *]) rfl ⟨_, _, _, _, _, rfl, ?_, ⟨_, _, _, rfl⟩, Lib.hid (Or.inr (Or.inr ⟨C.out, LN.out, Or.inl ⟨X, EL.out, hz.out, rfl, rfl, rfl, rfl, ?_⟩⟩))⟩
          · repeat (first | exact E1.out.below | refine Below.setCell ?_ (by simp; try omega) _)
          · have l := E1.out.lt
            refine owns_base (base := ob + 1) ?_ (by omega)
            repeat (first | exact E1.out.own | refine ownsRow_setCell_below ?_ (by simp; try omega) _)
    · have l' : ((ns.length : Int) != (L.length : Int)) = true := by simp; omega
      have LN := Lib.hid ln
      clear ln
      go_wp2
      refine bodyPost_ret (v := .tuple #[.agg #[.slice none 0 0, .int .i64 0, .int .i64 0, .int .i64 0], .int .i64 5]) (by simp [results, Try.results148, go_sem, *]) rfl ⟨_, _, _, _, _, rfl, ?_, ⟨_, _, _, rfl⟩, Lib.hid (Or.inr (Or.inl ⟨C.out, LN.out, rfl, rfl, rfl, rfl, rfl⟩))⟩
      repeat (first | exact B1.out | refine Below.setCell ?_ (by simp; try omega) _)
  · have c' : (dchk L k s h != 0) = true := by simp [c]
    have C := Lib.hid c
    clear c
    go_wp2
    refine bodyPost_ret (v := .tuple #[.agg #[.slice none 0 0, .int .i64 0, .int .i64 0, .int .i64 0], .int .i64 (dchk L k s h)]) (by simp [results, Try.results148, go_sem, *]) rfl ⟨_, _, _, _, _, rfl, ?_, ⟨_, _, _, rfl⟩, Lib.hid (Or.inl ⟨C.out, rfl, rfl, rfl, rfl, rfl⟩)⟩
    repeat (first | exact B1.out | refine Below.setCell ?_ (by simp; try omega) _)
set_option maxRecDepth 100000 in
set_option maxHeartbeats 3200000 in
theorem rDTranslate_any (g : Mv) (hg : Hid (MvOk 36 g)) (v : Value) (L : List R3) (k s h : Int) (iv : Value) (ns : List Int) (w : World) (hr : Rd w v L) (hL : Ok3 L) (hi : Ri w iv ns) (hN : Ok1 ns) :
    Calls Try.prog 75 #[.agg #[v, .int .i64 k, .int .i64 s, .int .i64 h], iv] w (DMvRet (RMv g L ns) L k s h ns w) := by
  obtain ⟨ao, cap, rfl, hc⟩ := hr
  obtain ⟨ai, ci, rfl, hci⟩ := hi
  have HR : Hid (Rd w (.slice ao L.length cap) L) := Lib.hid ⟨ao, cap, rfl, hc⟩
  have HI : Hid (Ri w (.slice ai ns.length ci) ns) := Lib.hid ⟨ai, ci, rfl, hci⟩
  have HL := Lib.hid hL
  have HN := Lib.hid hN
  clear hc hci hL hN
  go_enter Try.func75, Try.ntmps75
  go_wp2_with fail
  refine (refEach_Translate g hg _ L k s h _ ns _ ((HR.out.keep (below_new _ _)).keep (below_new _ _)) HL.out ((HI.out.keep (below_new _ _)).keep (below_new _ _)) HN.out).mono ?_
  rintro e w1 ⟨rv, kk, ss, hh, er, rfl, hb, ⟨ra, rn, rc, rfl⟩, hE⟩
  have S0 : ((w.alloc (.cells #[.slice ao L.length cap, .int .i64 k, .int .i64 s, .int .i64 h] 62)).alloc (.cells #[.slice none 0 0, .int .i64 0, .int .i64 0, .int .i64 0] 62)).heap.size = w.heap.size + 1 + 1 := by simp
  have R1 := res44 hb
  have P1 : Hid (DMvP (RMv g L ns) L k s h ns (w.heap.size + 1 + 1) (.slice ra rn rc) kk ss hh er w1) := Lib.hid (by have := hE.out; rwa [S0] at this)
  have B1 := Lib.hid R1.1
  have Z1 := Lib.hid R1.2.2
  clear hb hE S0 R1
  have z0 := Z1.out.c0
  have z1 := Z1.out.c1
  have z2 := Z1.out.c2
  have z3 := Z1.out.c3
  have f0 := Z1.out.f0
  have f1 := Z1.out.f1
  have f2 := Z1.out.f2
  have f3 := Z1.out.f3
  go_wp2
  refine bodyPost_ret (v := .tuple #[.agg #[.slice ra rn rc, .int .i64 kk, .int .i64 ss, .int .i64 hh], .int .i64 er]) (by simp [results, Try.results75, go_sem, *]) rfl ⟨_, _, _, _, _, rfl, ?_, ⟨_, _, _, rfl⟩, Lib.hid ?_⟩
  · repeat (first | exact B1.out | refine Below.setCell ?_ (by simp; try omega) _)
  · exact P1.out.set (by omega) (show w.heap.size + 1 < w.heap.size + 1 + 1 by omega) _ _ _ _
set_option maxRecDepth 100000 in
set_option maxHeartbeats 6400000 in
theorem refEach_Expand (g : Mv) (hg : Hid (MvOk 38 g)) (v : Value) (L : List R3) (k s h : Int) (iv : Value) (ns : List Int) (w : World) (hr : Rd w v L) (hL : Ok3 L) (hi : Ri w iv ns) (hN : Ok1 ns) :
    Calls Try.prog 148 #[.agg #[v, .int .i64 k, .int .i64 s, .int .i64 h], iv, .int .i64 1] w (DMvRet (RMv g L ns) L k s h ns w) := by
  obtain ⟨ao, cap, rfl, hc⟩ := hr
  obtain ⟨ai, ci, rfl, hci⟩ := hi
  have HR : Hid (Rd w (.slice ao L.length cap) L) := Lib.hid ⟨ao, cap, rfl, hc⟩
  have HC := Lib.hid hc
  have HIC := Lib.hid hci
  have HL := Lib.hid hL
  have HN := Lib.hid hN
  clear hc hci hL hN
  obtain ⟨i0, hi, hz0, hz1, hz2⟩ := info_parts Try.infoRange
  go_enter Try.func148, Try.ntmps148
  go_wp2_with fail
  refine (rDcheck_any _ L _ _ _ _ ((HR.out.keep (below_new _ _)).keep (below_new _ _)) HL.out).mono ?_
  rintro e w1 ⟨rfl, hb1⟩
  have R1 := res44 hb1
  have B1 := Lib.hid R1.1
  have D1 := Lib.hid R1.2.1
  have Z1 := Lib.hid R1.2.2
  clear hb1 R1
  have x0 := D1.out.c0
  have z0 := Z1.out.c0
  have z1 := Z1.out.c1
  have z2 := Z1.out.c2
  have z3 := Z1.out.c3
  have f0 := Z1.out.f0
  have f1 := Z1.out.f1
  have f2 := Z1.out.f2
  have f3 := Z1.out.f3
  by_cases c : dchk L k s h = 0
  · have c' : (dchk L k s h != 0) = false := by simp [c]
    have C := Lib.hid c
    have rk := Lib.hid (dchk_rank c)
    clear c
    by_cases ln : ns.length = L.length
    · have l' : ((ns.length : Int) != (L.length : Int)) = false := by simp [ln]
      have LN := Lib.hid ln
      obtain ⟨b, o, rfl, hb, hcell⟩ := HC.out.resolve_left (by have := rk.out; omega)
      obtain ⟨bi, oi, rfl, hbi, hicell⟩ := HIC.out.resolve_left (by have := rk.out; omega)
      have CL : Hid (At3 w b o L) := Lib.hid hcell
      have CI : Hid (At1 w bi oi ns) := Lib.hid hicell
      clear ln hcell hicell HC HIC z0 z1 z2 z3 f0 f1 f2 f3
      have x1 := D1.out.c1
      have x2 := D1.out.c2
      have x3 := D1.out.c3
      go_upto_region 7 with fail
      have Q0 : Hid (VSt w (.slice (some ⟨b, o, none⟩) L.length cap) k s h w1.heap.size [] none 0 (w1.alloc (.cells #[.slice none 0 0, .int .i64 k, .int .i64 s, .int .i64 h] 62))) := Lib.hid (by
        have nb := below_new w1 (.cells #[.slice none 0 0, .int .i64 k, .int .i64 s, .int .i64 h] 62)
        exact ⟨B1.out.trans (nb.mono B1.out.size), D1.out.keep nb, Z1.out.keep nb, Blk.new _ _ _ _ _ w1, World.ownsRow_nil _ _ _ _, Z1.out.size⟩)
      generalize w1.alloc (.cells #[.slice none 0 0, .int .i64 k, .int .i64 s, .int .i64 h] 62) = w2 at *
      generalize w1.heap.size = ob at *
      clear x0 x1 x2 x3 c' l' D1 Z1 B1
      go_wp2_with fail
      go_loopg [10, 11, 12, 41, 52, 63, 79] (L.length + 1) (fun gh v10 _ _ _ _ _ _ wr => ∃ (X : List R3) (ro : Option Addr) (rc : Nat), v10 = .int .i64 X.length ∧ (X.length ≤ L.length ∧ L.length - X.length < gh) ∧ Hid (∀ (i : Nat) (x : R3), X[i]? = some x → RMv g L ns i x 0) ∧ Hid (VSt w (.slice (some ⟨b, o, none⟩) L.length cap) k s h ob X ro rc wr))
      case atStart => exact ⟨[], none, 0, rfl, ⟨by simp, by simp⟩, Lib.hid (fun i x hx => by simp at hx), Q0⟩
      case round =>
        obtain ⟨X, ro, rc, rfl, ⟨j0, jg⟩, hz, E1⟩ := hrel
        have KG := Lib.hid jg
        clear jg
        by_cases hj : X.length < L.length
        · have jw : IntKind.i64.wrap ((X.length : Int) + 1) = (X.length : Int) + 1 := IntWalk.i64_in _ (by have := rk.out; omega)
          have n2 : (L.length : Int) ≤ 2 := by have := rk.out; omega
          have hj2 : X.length < ns.length := by have := LN.out; omega
          have m2 : (ns.length : Int) ≤ 2 := by have := LN.out; omega
          obtain ⟨x, hx⟩ : ∃ x, L[X.length]? = some x := ⟨L[X.length], List.getElem?_eq_getElem hj⟩
          obtain ⟨n, hn⟩ : ∃ n, ns[X.length]? = some n := ⟨ns[X.length], List.getElem?_eq_getElem hj2⟩
          have PX := CL.out _ x hx
          have PN := Lib.hid (CI.out _ n hn)
          have ox := HL.out x (List.mem_of_getElem? hx)
          have on := HN.out n (List.mem_of_getElem? hn)
          have FX := Lib.hid hx
          have FN := Lib.hid hn
          have p0 := (E1.out.below.cell (p := ⟨b, o + X.length * 3, none⟩) hb).trans PX.1
          have p1 := (E1.out.below.cell (p := ⟨b, o + X.length * 3 + 1, none⟩) hb).trans PX.2.1
          have p2 := (E1.out.below.cell (p := ⟨b, o + X.length * 3 + 2, none⟩) hb).trans PX.2.2
          have d0 := E1.out.d.c0
          clear hx hn PX
          go_upto_region 11 with fail
          have E2 := Lib.hid (E1.out.keep (below_new wr (.cells #[.int .i64 x.1, .int .i64 x.2.1, .int .i64 x.2.2] 23)))
          have X2 := Lib.hid (B3.new (.int .i64 x.1) (.int .i64 x.2.1) (.int .i64 x.2.2) 23 wr)
          have RL := Lib.hid (fun g hg => (E1.out.own.lt g hg).2)
          have GO := Lib.hid E1.out.r.size
          clear E1 p0 p1 p2 d0
          generalize wr.alloc (.cells #[.int .i64 x.1, .int .i64 x.2.1, .int .i64 x.2.2] 23) = w3 at *
          generalize wr.heap.size = xb at *
          go_upto_region 15 with fail
          refine wp_region_held_drew (S := (fun w' => VSt w (.slice (some ⟨b, o, none⟩) L.length cap) k s h ob X ro rc w')) (by kernel_rfl) (E2.out.keep (to_drew (Below.refl _ _))) (fun hHeld => ?_)
          have X2 := X2.out.keep (to_drew (Below.refl _ _))
          clear E2
          obtain ⟨v0, hv0⟩ : ∃ v0, v0 = w3.drew := ⟨_, rfl⟩
          rw [← hv0] at hHeld X2 ⊢
          clear hv0
          refine wpAnyH_take (i := 1) (oi := { dst := some 56, op := Op.move (Operand.tmp 1), type := 48, pos := "ref.go:180", after := #[], guard := none }) (v := ?_) rfl (by kernel_rfl) (by kernel_rfl) (by kernel_rfl) (fun _ _ _ h => h) (Or.inl ⟨by rfl, ?_⟩) (by assumption) ?_
          rotate_left
          · (intro wq hSw; (try dsimp only at hSw); have n0 := (hSw.below.cell (p := ⟨bi, oi + X.length, none⟩) hbi).trans PN.out; clear hSw; go_simp; first | done | with_reducible rfl)
          try simp only [Act.put, List.setIfInBounds_toArray, List.set_cons_zero, List.set_cons_succ]
          refine wpAnyH_take (i := 2) (oi := { dst := some 57, op := Op.move (Operand.tmp 10), type := 3, pos := "ref.go:180", after := #[], guard := none }) (v := ?_) rfl (by kernel_rfl) (by kernel_rfl) (by kernel_rfl) (fun _ _ _ h => h) (Or.inl ⟨by rfl, ?_⟩) (by assumption) ?_
          rotate_left
          · (intro wq hSw; (try dsimp only at hSw); have n0 := (hSw.below.cell (p := ⟨bi, oi + X.length, none⟩) hbi).trans PN.out; clear hSw; go_simp; first | done | with_reducible rfl)
          try simp only [Act.put, List.setIfInBounds_toArray, List.set_cons_zero, List.set_cons_succ]
          refine wpAnyH_take (i := 3) (oi := { dst := some 58, op := Op.indexAddr 48 (Operand.tmp 56) (Operand.tmp 57), type := 0, pos := "ref.go:180", after := #[{ on := 1, ground := Ground.data }, { on := 2, ground := Ground.data }], guard := none }) (v := ?_) rfl (by kernel_rfl) (by kernel_rfl) (by kernel_rfl) (fun _ _ _ h => h) (Or.inl ⟨by rfl, ?_⟩) (by assumption) ?_
          rotate_left
          · (intro wq hSw; (try dsimp only at hSw); have n0 := (hSw.below.cell (p := ⟨bi, oi + X.length, none⟩) hbi).trans PN.out; clear hSw; go_simp; first | done | with_reducible rfl)
          try simp only [Act.put, List.setIfInBounds_toArray, List.set_cons_zero, List.set_cons_succ]
          refine wpAnyH_take (i := 4) (oi := { dst := some 59, op := Op.load 3 (Operand.tmp 58), type := 3, pos := "ref.go:180", after := #[{ on := 3, ground := Ground.data }], guard := none }) (v := ?_) rfl (by kernel_rfl) (by kernel_rfl) (by kernel_rfl) (fun _ _ _ h => h) (Or.inl ⟨by rfl, ?_⟩) (by assumption) ?_
          rotate_left
          · (intro wq hSw; (try dsimp only at hSw); have n0 := (hSw.below.cell (p := ⟨bi, oi + X.length, none⟩) hbi).trans PN.out; clear hSw; go_simp; first | done | with_reducible rfl)
          try simp only [Act.put, List.setIfInBounds_toArray, List.set_cons_zero, List.set_cons_succ]
          refine wpAnyH_ready (rs := [0]) (by kernel_rfl) (by simp) ?_
          refine AllReadyH.cons (o := { dst := some 55, op := Op.load 23 (Operand.tmp 11), type := 23, pos := "ref.go:180", after := #[], guard := none }) rfl (fun K hK => ?_) AllReadyH.nil
          go_simp
          have c0 := X2.c0
          have c1 := X2.c1
          have c2 := X2.c2
          go_simp
          have hS := hHeld
          refine hK.out _ _ hS (fun hHeld => ?_)
          clear hK K hHeld
          clear c0 c1 c2
          have hHeld := hS
          clear hS
          try simp only [Act.put, List.setIfInBounds_toArray, List.set_cons_zero, List.set_cons_succ]
          refine wpAnyH_ready (rs := [5]) (by kernel_rfl) (by simp) ?_
          refine AllReadyH.cons (o := { dst := some 60, op := Op.call { callee := Callee.value (Operand.func 38), args := #[Operand.tmp 55, Operand.tmp 59], argTypes := #[23, 3] }, type := 25, pos := "ref.go:180", after := #[{ on := 0, ground := Ground.data }, { on := 4, ground := Ground.data }], guard := none }) rfl (fun K hK => ?_) AllReadyH.nil
          go_simp
          refine (hg.out x n ox.1 ox.2.1 ox.2.2 on _).mono ?_
          rintro e v2 ⟨rfl, hq⟩
          have hq : Below v0.heap.size v0 v2 := ⟨hq.os, hq.tape, hq.output, hq.size, hq.block⟩
          have hS := hHeld.keep hq
          have X2 := X2.keep hq
          go_wp2_with fail
          refine hK.out _ _ hS (fun hHeld => ?_)
          clear hK K hHeld
          clear hq
          have hHeld := hS
          clear hS
          try simp only [Act.put, List.setIfInBounds_toArray, List.set_cons_zero, List.set_cons_succ]
          refine wpAnyH_take (i := 6) (oi := { dst := some 54, op := Op.move (Operand.tmp 60), type := 25, pos := "ref.go:180", after := #[{ on := 5, ground := Ground.data }], guard := none }) (v := ?_) rfl (by kernel_rfl) (by kernel_rfl) (by kernel_rfl) (fun _ _ _ h => h) (Or.inl ⟨by rfl, ?_⟩) (by assumption) ?_
          rotate_left
          · (intro wq hSw; (try dsimp only at hSw); have n0 := (hSw.below.cell (p := ⟨bi, oi + X.length, none⟩) hbi).trans PN.out; clear hSw; go_simp; first | done | with_reducible rfl)
          try simp only [Act.put, List.setIfInBounds_toArray, List.set_cons_zero, List.set_cons_succ]
          refine wpAnyH_take (i := 7) (oi := { dst := some 61, op := Op.extract (Operand.tmp 54) 0, type := 23, pos := "ref.go:180", after := #[{ on := 6, ground := Ground.data }], guard := none }) (v := ?_) rfl (by kernel_rfl) (by kernel_rfl) (by kernel_rfl) (fun _ _ _ h => h) (Or.inl ⟨by rfl, ?_⟩) (by assumption) ?_
          rotate_left
          · (intro wq hSw; (try dsimp only at hSw); have n0 := (hSw.below.cell (p := ⟨bi, oi + X.length, none⟩) hbi).trans PN.out; clear hSw; go_simp; first | done | with_reducible rfl)
          try simp only [Act.put, List.setIfInBounds_toArray, List.set_cons_zero, List.set_cons_succ]
          refine wpAnyH_take (i := 8) (oi := { dst := some 62, op := Op.extract (Operand.tmp 54) 1, type := 24, pos := "ref.go:180", after := #[{ on := 6, ground := Ground.data }, { on := 9, ground := Ground.gcOnly Departure.lateStores }], guard := none }) (v := ?_) rfl (by kernel_rfl) (by kernel_rfl) (by kernel_rfl) (fun _ _ _ h => h) (Or.inl ⟨by rfl, ?_⟩) (by assumption) ?_
          rotate_left
          · (intro wq hSw; (try dsimp only at hSw); have n0 := (hSw.below.cell (p := ⟨bi, oi + X.length, none⟩) hbi).trans PN.out; clear hSw; go_simp; first | done | with_reducible rfl)
          try simp only [Act.put, List.setIfInBounds_toArray, List.set_cons_zero, List.set_cons_succ]
          refine wpAnyH_ready (rs := [9]) (by kernel_rfl) (by simp) ?_
          refine AllReadyH.cons (o := { dst := none, op := Op.store 23 (Operand.tmp 11) (Operand.tmp 61), type := 0, pos := "ref.go:180", after := #[{ on := 7, ground := Ground.data }, { on := 5, ground := Ground.chain }, { on := 0, ground := Ground.phase }, { on := 1, ground := Ground.phase }, { on := 2, ground := Ground.phase }, { on := 3, ground := Ground.phase }, { on := 4, ground := Ground.phase }, { on := 5, ground := Ground.phase }, { on := 6, ground := Ground.phase }, { on := 7, ground := Ground.phase }, { on := 8, ground := Ground.textOnly Departure.lateStores }], guard := none }) rfl (fun K hK => ?_) AllReadyH.nil
          go_simp
          have c0 := X2.c0
          have c1 := X2.c1
          have c2 := X2.c2
          have f0 := X2.f0
          have f1 := X2.f1
          have f2 := X2.f2
          go_simp
          have hS := hHeld.under (set3s_below (Nat.le_refl xb) (.int .i64 (g x n).1.1) (.int .i64 (g x n).1.2.1) (.int .i64 (g x n).1.2.2)) GO.out RL.out
          have X2 := X2.set (.int .i64 (g x n).1.1) (.int .i64 (g x n).1.2.1) (.int .i64 (g x n).1.2.2)
          refine hK.out _ _ hS (fun hHeld => ?_)
          clear hK K hHeld
          clear c0 c1 c2 f0 f1 f2
          change wpAnyH _ _ _ _ _ _ _ _ (set3 v2 xb (.int .i64 (g x n).1.1) (.int .i64 (g x n).1.2.1) (.int .i64 (g x n).1.2.2))
          generalize set3 v2 xb (.int .i64 (g x n).1.1) (.int .i64 (g x n).1.2.1) (.int .i64 (g x n).1.2.2) = v3 at *
          have hHeld := hS
          clear hS
          try simp only [Act.put, List.setIfInBounds_toArray, List.set_cons_zero, List.set_cons_succ]
          refine wpAnyH_take (i := 10) (oi := { dst := some 12, op := Op.assign (Operand.tmp 62), type := 24, pos := "ref.go:180", after := #[{ on := 8, ground := Ground.data }, { on := 9, ground := Ground.chain }, { on := 0, ground := Ground.phase }, { on := 1, ground := Ground.phase }, { on := 2, ground := Ground.phase }, { on := 3, ground := Ground.phase }, { on := 4, ground := Ground.phase }, { on := 5, ground := Ground.phase }, { on := 6, ground := Ground.phase }, { on := 7, ground := Ground.phase }, { on := 8, ground := Ground.phase }, { on := 9, ground := Ground.phase }], guard := none }) (v := ?_) rfl (by kernel_rfl) (by kernel_rfl) (by kernel_rfl) (fun _ _ _ h => h) (Or.inl ⟨by rfl, ?_⟩) (by assumption) ?_
          rotate_left
          · (intro wq hSw; (try dsimp only at hSw); have n0 := (hSw.below.cell (p := ⟨bi, oi + X.length, none⟩) hbi).trans PN.out; clear hSw; go_simp; first | done | with_reducible rfl)
          try simp only [Act.put, List.setIfInBounds_toArray, List.set_cons_zero, List.set_cons_succ]
          refine wpAnyH_done (by kernel_rfl) ?_ _
          have E3 := Lib.hid hHeld
          have X3 := Lib.hid X2
          clear hHeld X2
          by_cases ce : (g x n).2 = 0
          · have CE := Lib.hid ce
            have ce' : ((g x n).2 != 0) = false := by simp [ce]
            clear ce
            go_upto_region 24 with fail
            clear ce'
            have r0 := E3.out.r.c0
            have r1 := E3.out.r.c1
            have r2 := E3.out.r.c2
            have r3 := E3.out.r.c3
            have g0 := E3.out.r.f0
            have x0' := X3.out.c0
            have x1' := X3.out.c1
            have x2' := X3.out.c2
            have sz := E3.out.r.size
            have zx := X3.out.size
            go_wp2_with (first | (at_builtin; refine wpList_append_own _ rfl (.tmp 100) (.tmp 102) 40 rfl (ob + 1) 23 i0 (.agg #[.int .i64 0, .int .i64 0, .int .i64 0]) 3 24 Try.underlying40 hi hz0 hz1 hz2 rfl (by decide) _ X.length (cells3 X) rfl (E3.out.own.alloc _) ⟨v3.heap.size, 0, none⟩ 1 1 (cells3 [((g x n).1.1, (g x n).1.2.1, (g x n).1.2.2)]) rfl rfl ?c1 ?c2 ?c3 ?c4 ?c5 ?_))
            case c1 => exact World.news_of_block (cs := #[.int .i64 (g x n).1.1, .int .i64 (g x n).1.2.1, .int .i64 (g x n).1.2.2]) (t := 23) (fr := (0, 0)) (heap_alloc_new v3 _)
            case c2 => exact cells3_one _
            case c3 => unfold maxLen; omega
            case c4 => omega
            case c5 => simp; omega
            intro u' w4 own4 grow4 _
            obtain ⟨g', cap4, rfl⟩ := ownsRow_succ own4
            have E4 := Lib.hid ((E3.out.keep (below_new v3 (.cells #[.int .i64 (g x n).1.1, .int .i64 (g x n).1.2.1, .int .i64 (g x n).1.2.2] 23))).add own4 grow4)
            have B4 : Below (ob + 1) (v3.alloc (.cells #[.int .i64 (g x n).1.1, .int .i64 (g x n).1.2.1, .int .i64 (g x n).1.2.2] 23)) w4 := (Below.refl _ _).grown grow4 (by simp; omega) (fun gb hgb => (((E3.out.own.alloc (.cells #[.int .i64 (g x n).1.1, .int .i64 (g x n).1.2.1, .int .i64 (g x n).1.2.2] 23)).lt gb hgb)).1)
            have R4 := Lib.hid (blk_under (E3.out.r.keep (below_new v3 (.cells #[.int .i64 (g x n).1.1, .int .i64 (g x n).1.2.1, .int .i64 (g x n).1.2.2] 23))) B4 (by omega))
            clear own4 grow4 B4 E3 X3 r0 r1 r2 r3 g0 x0' x1' x2' sz zx
            have r0 := R4.out.c0
            have g0 := R4.out.f0
            go_wp2_with fail
            go_roundg (L.length - X.length)
            case measure => exact KG.out
            case rel => exact ⟨X ++ [((g x n).1.1, (g x n).1.2.1, (g x n).1.2.2)], _, _, by simp, ⟨by simp; omega, by simp; omega⟩, Lib.hid (fun i x hx => by
                by_cases c : i < X.length
                · rw [List.getElem?_append_left c] at hx; exact hz.out i x hx
                · rw [List.getElem?_append_right (by omega)] at hx
                  have e : i = X.length := by
                    have := (List.getElem?_eq_some_iff.1 hx).1
                    simp at this; omega
                  subst e
                  simp at hx; subst hx; exact ⟨x, n, FX.out, FN.out, by rfl, by exact CE.out.symm⟩), E4⟩
          · have CE := Lib.hid ce
            have ce' : ((g x n).2 != 0) = true := by simp [ce]
            clear ce
            have z0 := E3.out.z.f0
            have z1 := E3.out.z.f1
            have z2 := E3.out.z.f2
            have z3 := E3.out.z.f3
            have q0 := E3.out.z.c0
            have q1 := E3.out.z.c1
            have q2 := E3.out.z.c2
            have q3 := E3.out.z.c3
            go_wp2
            refine bodyPost_ret (v := .tuple #[.agg #[.slice none 0 0, .int .i64 0, .int .i64 0, .int .i64 0], .int .i64 (g x n).2]) (by simp [results, Try.results148, go_sem, *]) rfl ⟨_, _, _, _, _, rfl, ?_, ⟨_, _, _, rfl⟩, Lib.hid (Or.inr (Or.inr ⟨C.out, LN.out, Or.inr ⟨X.length, (g x n).1, hj, ⟨x, n, FX.out, FN.out, by rfl, by rfl⟩, CE.out, fun i hi => ?_, rfl, rfl, rfl, rfl⟩⟩))⟩
            · repeat (first | exact E3.out.below | refine Below.setCell ?_ (by simp; try omega) _)
            · exact ⟨X[i]'hi, hz.out i _ (List.getElem?_eq_getElem hi)⟩
        · have eL : X.length = L.length := by omega
          have hj2 : ¬ X.length < ns.length := by have := LN.out; omega
          have r0 := E1.out.r.c0
          have r1 := E1.out.r.c1
          have r2 := E1.out.r.c2
          have r3 := E1.out.r.c3
          have z0 := E1.out.z.f0
          have z1 := E1.out.z.f1
          have z2 := E1.out.z.f2
          have z3 := E1.out.z.f3
          have q0 := E1.out.z.c0
          have q1 := E1.out.z.c1
          have q2 := E1.out.z.c2
          have q3 := E1.out.z.c3
          have EL := Lib.hid eL
          clear eL
          go_wp2
          refine bodyPost_ret (v := .tuple #[.agg #[.slice ro X.length rc, .int .i64 k, .int .i64 s, .int .i64 h], .int .i64 0]) (by simp [results, Try.results148, go_sem, *]) rfl ⟨_, _, _, _, _, rfl, ?_, ⟨_, _, _, rfl⟩, Lib.hid (Or.inr (Or.inr ⟨C.out, LN.out, Or.inl ⟨X, EL.out, hz.out, rfl, rfl, rfl, rfl, ?_⟩⟩))⟩
          · repeat (first | exact E1.out.below | refine Below.setCell ?_ (by simp; try omega) _)
          · have l := E1.out.lt
            refine owns_base (base := ob + 1) ?_ (by omega)
            repeat (first | exact E1.out.own | refine ownsRow_setCell_below ?_ (by simp; try omega) _)
    · have l' : ((ns.length : Int) != (L.length : Int)) = true := by simp; omega
      have LN := Lib.hid ln
      clear ln
      go_wp2
      refine bodyPost_ret (v := .tuple #[.agg #[.slice none 0 0, .int .i64 0, .int .i64 0, .int .i64 0], .int .i64 5]) (by simp [results, Try.results148, go_sem, *]) rfl ⟨_, _, _, _, _, rfl, ?_, ⟨_, _, _, rfl⟩, Lib.hid (Or.inr (Or.inl ⟨C.out, LN.out, rfl, rfl, rfl, rfl, rfl⟩))⟩
      repeat (first | exact B1.out | refine Below.setCell ?_ (by simp; try omega) _)
  · have c' : (dchk L k s h != 0) = true := by simp [c]
    have C := Lib.hid c
    clear c
    go_wp2
    refine bodyPost_ret (v := .tuple #[.agg #[.slice none 0 0, .int .i64 0, .int .i64 0, .int .i64 0], .int .i64 (dchk L k s h)]) (by simp [results, Try.results148, go_sem, *]) rfl ⟨_, _, _, _, _, rfl, ?_, ⟨_, _, _, rfl⟩, Lib.hid (Or.inl ⟨C.out, rfl, rfl, rfl, rfl, rfl⟩)⟩
    repeat (first | exact B1.out | refine Below.setCell ?_ (by simp; try omega) _)
set_option maxRecDepth 100000 in
set_option maxHeartbeats 3200000 in
theorem rDExpand_any (g : Mv) (hg : Hid (MvOk 38 g)) (v : Value) (L : List R3) (k s h : Int) (iv : Value) (ns : List Int) (w : World) (hr : Rd w v L) (hL : Ok3 L) (hi : Ri w iv ns) (hN : Ok1 ns) :
    Calls Try.prog 77 #[.agg #[v, .int .i64 k, .int .i64 s, .int .i64 h], iv] w (DMvRet (RMv g L ns) L k s h ns w) := by
  obtain ⟨ao, cap, rfl, hc⟩ := hr
  obtain ⟨ai, ci, rfl, hci⟩ := hi
  have HR : Hid (Rd w (.slice ao L.length cap) L) := Lib.hid ⟨ao, cap, rfl, hc⟩
  have HI : Hid (Ri w (.slice ai ns.length ci) ns) := Lib.hid ⟨ai, ci, rfl, hci⟩
  have HL := Lib.hid hL
  have HN := Lib.hid hN
  clear hc hci hL hN
  go_enter Try.func77, Try.ntmps77
  go_wp2_with fail
  refine (refEach_Expand g hg _ L k s h _ ns _ ((HR.out.keep (below_new _ _)).keep (below_new _ _)) HL.out ((HI.out.keep (below_new _ _)).keep (below_new _ _)) HN.out).mono ?_
  rintro e w1 ⟨rv, kk, ss, hh, er, rfl, hb, ⟨ra, rn, rc, rfl⟩, hE⟩
  have S0 : ((w.alloc (.cells #[.slice ao L.length cap, .int .i64 k, .int .i64 s, .int .i64 h] 62)).alloc (.cells #[.slice none 0 0, .int .i64 0, .int .i64 0, .int .i64 0] 62)).heap.size = w.heap.size + 1 + 1 := by simp
  have R1 := res44 hb
  have P1 : Hid (DMvP (RMv g L ns) L k s h ns (w.heap.size + 1 + 1) (.slice ra rn rc) kk ss hh er w1) := Lib.hid (by have := hE.out; rwa [S0] at this)
  have B1 := Lib.hid R1.1
  have Z1 := Lib.hid R1.2.2
  clear hb hE S0 R1
  have z0 := Z1.out.c0
  have z1 := Z1.out.c1
  have z2 := Z1.out.c2
  have z3 := Z1.out.c3
  have f0 := Z1.out.f0
  have f1 := Z1.out.f1
  have f2 := Z1.out.f2
  have f3 := Z1.out.f3
  go_wp2
  refine bodyPost_ret (v := .tuple #[.agg #[.slice ra rn rc, .int .i64 kk, .int .i64 ss, .int .i64 hh], .int .i64 er]) (by simp [results, Try.results77, go_sem, *]) rfl ⟨_, _, _, _, _, rfl, ?_, ⟨_, _, _, rfl⟩, Lib.hid ?_⟩
  · repeat (first | exact B1.out | refine Below.setCell ?_ (by simp; try omega) _)
  · exact P1.out.set (by omega) (show w.heap.size + 1 < w.heap.size + 1 + 1 by omega) _ _ _ _
end Go.Proofs.Ytabgphlpdoockaa
