/-
  Part 10: DomF, DomG, RndH.
-/
import Derived.Test.YtabgphlpdoockaaDr7
import Derived.Test.YtabgphlpdoockaaDr9
import Derived.BigQuiet
import Derived.Deep.CutBlock
import Derived.Deep.DeepCutAuto
import Derived.Deep.DrawnRows
import Derived.Deep.LoopGhost
import Derived.Deep.QuietTactic
import Derived.Deep.RegionHeld
import Derived.Deep.RegionHeld3
import Derived.Deep.RegionWith
import Derived.Lib.Hide
import Derived.LoopIn
import Derived.LoopNIn
import Derived.Maps.AppendAt
import Derived.OrdersHeld
import Derived.OrdersIn
import Derived.OwnWalkIn
import Derived.RangeFuncBound
import Derived.RangeFuncBox
import Derived.RangeFuncCalls
import Derived.RangeFuncLeaves
import Derived.RangeFuncNested
import Derived.Shelf.Abstract
import Derived.TacticsInMore
import Derived.WalkKit
import Derived.WalkLawsBesides
import Derived.WalkSpells
namespace Go.Proofs.Ytabgphlpdoockaa
open Go.RowKit
/-- a range with its numbers in ascending order -/
def upR (A : R3) : R3 := (A.1, A.2.1, magA A.2.2)
theorem by_minus (l h s : Int) (hk : chk l h s = 0) (hs : s < 0) : Ret4 31 l h s (-1) l h (magA s) 0 := by
  have bA := chk_bounds hk
  have hlt : l < h := by
    rcases chk_zero hk with ⟨_, _, rfl⟩ | ⟨_, _, _, _, _, _, _, _, _, one⟩
    · omega
    · by_cases c : l = h
      · have := one c; omega
      · omega
  have r := by_ret l h s (-1) hk (by omega) (by omega) (by omega) (by omega)
  rw [byT_back hk (by omega), nrm_two hlt] at r
  simp only [hs, decide_true, Bool.not_true, Bool.false_eq_true, if_false] at r
  exact r
set_option maxRecDepth 100000 in
set_option maxHeartbeats 3200000 in
theorem ofClo (c0 ba oa n ca i : Nat) (a0 a1 a2 : Int) (w : World) (p0 : w.cell? ⟨c0, 0, none⟩ = some (.slice (some ⟨ba, oa, none⟩) n ca)) (p1 : w.cell? ⟨ba, oa + i * 3, none⟩ = some (.int .i64 a0)) (p2 : w.cell? ⟨ba, oa + i * 3 + 1, none⟩ = some (.int .i64 a1)) (p3 : w.cell? ⟨ba, oa + i * 3 + 2, none⟩ = some (.int .i64 a2)) (hi : i < n) (hn : n ≤ 2) (h0 : I64 a0) (h1 : I64 a1) (h2 : I64 a2) :
    Calls Try.prog 140 #[.int .i64 i, .pointer (some ⟨c0, 0, none⟩)] w fun e w' => ∃ (x0 x1 x2 er : Int), e = .returned (.tuple #[.agg #[.int .i64 x0, .int .i64 x1, .int .i64 x2], .int .i64 er]) ∧ Below w.heap.size w w' ∧ Hid (er = chk a0 a1 a2 ∧ (er = 0 → (x0, x1, x2) = upR (a0, a1, a2))) := by
  have zc0 : c0 < w.heap.size := World.block_lt_of_cell? w _ p0
  have zba : ba < w.heap.size := World.block_lt_of_cell? w _ p1
  have W1 : Hid (Below w.heap.size w (w.alloc (.cells #[.int .i64 0, .int .i64 0, .int .i64 0] 23))) := Lib.hid (below_new _ _)
  have N1 := Lib.hid (B3.new (.int .i64 0) (.int .i64 0) (.int .i64 0) 23 w)
  have p0 := (W1.out.cell (p := ⟨c0, 0, none⟩) zc0).trans p0
  have p1 := (W1.out.cell (p := ⟨ba, oa + i * 3, none⟩) zba).trans p1
  have p2 := (W1.out.cell (p := ⟨ba, oa + i * 3 + 1, none⟩) zba).trans p2
  have p3 := (W1.out.cell (p := ⟨ba, oa + i * 3 + 2, none⟩) zba).trans p3
  have z1 := W1.out.size
  have n0 := N1.out.size
  have f0 := N1.out.f0
  have f1 := N1.out.f1
  have f2 := N1.out.f2
  have d0 := N1.out.c0
  have d1 := N1.out.c1
  have d2 := N1.out.c2
  go_enter Try.func140, Try.ntmps140
  go_upto_region 1 with fail
  generalize w.alloc (.cells #[.int .i64 0, .int .i64 0, .int .i64 0] 23) = w1 at *
  by_cases ng : a2 < 0
  · have HN := Lib.hid ng
    by_cases c : chk a0 a1 a2 = 0
    · have r := Lib.hid (by_minus a0 a1 a2 c ng)
      have C := Lib.hid c
      clear c
      go_wp2_with fail
      refine (r.out _).mono ?_
      rintro e w2 ⟨rfl, hb⟩
      have W2 := Lib.hid (W1.out.trans (hb.mono W1.out.size))
      have N2 := Lib.hid (N1.out.keep hb)
      clear hb f0 f1 f2 d0 d1 d2 p0 p1 p2 p3
      have f0 := N2.out.f0
      have f1 := N2.out.f1
      have f2 := N2.out.f2
      have d0 := N2.out.c0
      have d1 := N2.out.c1
      have d2 := N2.out.c2
      go_wp2
      refine bodyPost_ret (v := .tuple #[.agg #[.int .i64 a0, .int .i64 a1, .int .i64 (magA a2)], .int .i64 0]) (by simp [results, Try.results140, go_sem, *]) rfl ⟨_, _, _, _, rfl, ?_, Lib.hid ⟨C.out.symm, fun _ => rfl⟩⟩
      repeat (first | exact W2.out | refine Below.setCell ?_ (by simp; try omega) _)
    · have r := Lib.hid (byChk a0 a1 a2 (-1) h0 h1 h2 c)
      have C := Lib.hid c
      clear c
      go_wp2_with fail
      refine (r.out _).mono ?_
      rintro e w2 ⟨rfl, hb⟩
      have W2 := Lib.hid (W1.out.trans (hb.mono W1.out.size))
      have N2 := Lib.hid (N1.out.keep hb)
      clear hb f0 f1 f2 d0 d1 d2 p0 p1 p2 p3
      have f0 := N2.out.f0
      have f1 := N2.out.f1
      have f2 := N2.out.f2
      have d0 := N2.out.c0
      have d1 := N2.out.c1
      have d2 := N2.out.c2
      go_wp2
      refine bodyPost_ret (v := .tuple #[.agg #[.int .i64 0, .int .i64 0, .int .i64 0], .int .i64 (chk a0 a1 a2)]) (by simp [results, Try.results140, go_sem, *]) rfl ⟨_, _, _, _, rfl, ?_, Lib.hid ⟨rfl, fun e => absurd e C.out⟩⟩
      repeat (first | exact W2.out | refine Below.setCell ?_ (by simp; try omega) _)
  · have HN := Lib.hid ng
    go_upto_region 3 with fail
    clear f0 f1 f2 d0 d1 d2
    refine wp_region_held_drew (S := (fun w' => w'.cell? ⟨c0, 0, none⟩ = some (.slice (some ⟨ba, oa, none⟩) n ca) ∧ w'.cell? ⟨ba, oa + i * 3, none⟩ = some (.int .i64 a0) ∧ w'.cell? ⟨ba, oa + i * 3 + 1, none⟩ = some (.int .i64 a1) ∧ w'.cell? ⟨ba, oa + i * 3 + 2, none⟩ = some (.int .i64 a2))) (by kernel_rfl) ?_ (fun hHeld => ?_)
    · first | exact hHeld | exact ⟨p0, p1, p2, p3⟩ | (obtain ⟨q0, q1, q2, q3⟩ := hHeld; refine ⟨?_, ?_, ?_, ?_⟩ <;> simp [go_sem, *]; done) | go_keep
    refine wpAnyH_take (i := 0) (oi := { dst := some 18, op := Op.load 40 (Operand.tmp 1), type := 40, pos := "domain.go:24", after := #[], guard := none }) (v := ?_) rfl (by kernel_rfl) (by kernel_rfl) (by kernel_rfl) (fun _ _ _ h => h) (Or.inl ⟨by rfl, ?_⟩) (by assumption) ?_
    rotate_left
    · (intro w hSw; (try dsimp only at hSw); go_simp; first | done | with_reducible rfl)
    try simp only [Act.put, List.setIfInBounds_toArray, List.set_cons_zero, List.set_cons_succ]
    refine wpAnyH_take (i := 1) (oi := { dst := some 19, op := Op.move (Operand.tmp 0), type := 3, pos := "domain.go:24", after := #[], guard := none }) (v := ?_) rfl (by kernel_rfl) (by kernel_rfl) (by kernel_rfl) (fun _ _ _ h => h) (Or.inl ⟨by rfl, ?_⟩) (by assumption) ?_
    rotate_left
    · (intro w hSw; (try dsimp only at hSw); go_simp; first | done | with_reducible rfl)
    try simp only [Act.put, List.setIfInBounds_toArray, List.set_cons_zero, List.set_cons_succ]
    refine wpAnyH_take (i := 2) (oi := { dst := some 20, op := Op.indexAddr 40 (Operand.tmp 18) (Operand.tmp 19), type := 0, pos := "domain.go:24", after := #[{ on := 0, ground := Ground.data }, { on := 1, ground := Ground.data }], guard := none }) (v := ?_) rfl (by kernel_rfl) (by kernel_rfl) (by kernel_rfl) (fun _ _ _ h => h) (Or.inl ⟨by rfl, ?_⟩) (by assumption) ?_
    rotate_left
    · (intro w hSw; (try dsimp only at hSw); go_simp; first | done | with_reducible rfl)
    try simp only [Act.put, List.setIfInBounds_toArray, List.set_cons_zero, List.set_cons_succ]
    refine wpAnyH_take (i := 3) (oi := { dst := some 21, op := Op.load 23 (Operand.tmp 20), type := 23, pos := "domain.go:24", after := #[{ on := 2, ground := Ground.data }], guard := none }) (v := ?_) rfl (by kernel_rfl) (by kernel_rfl) (by kernel_rfl) (fun _ _ _ h => h) (Or.inl ⟨by rfl, ?_⟩) (by assumption) ?_
    rotate_left
    · (intro w hSw; (try dsimp only at hSw); go_simp; first | done | with_reducible rfl)
    try simp only [Act.put, List.setIfInBounds_toArray, List.set_cons_zero, List.set_cons_succ]
    refine wpAnyH_take (i := 4) (oi := { dst := some 22, op := Op.load 40 (Operand.tmp 1), type := 40, pos := "domain.go:24", after := #[], guard := none }) (v := ?_) rfl (by kernel_rfl) (by kernel_rfl) (by kernel_rfl) (fun _ _ _ h => h) (Or.inl ⟨by rfl, ?_⟩) (by assumption) ?_
    rotate_left
    · (intro w hSw; (try dsimp only at hSw); go_simp; first | done | with_reducible rfl)
    try simp only [Act.put, List.setIfInBounds_toArray, List.set_cons_zero, List.set_cons_succ]
    refine wpAnyH_take (i := 5) (oi := { dst := some 23, op := Op.move (Operand.tmp 0), type := 3, pos := "domain.go:24", after := #[], guard := none }) (v := ?_) rfl (by kernel_rfl) (by kernel_rfl) (by kernel_rfl) (fun _ _ _ h => h) (Or.inl ⟨by rfl, ?_⟩) (by assumption) ?_
    rotate_left
    · (intro w hSw; (try dsimp only at hSw); go_simp; first | done | with_reducible rfl)
    try simp only [Act.put, List.setIfInBounds_toArray, List.set_cons_zero, List.set_cons_succ]
    refine wpAnyH_take (i := 6) (oi := { dst := some 24, op := Op.indexAddr 40 (Operand.tmp 22) (Operand.tmp 23), type := 0, pos := "domain.go:24", after := #[{ on := 4, ground := Ground.data }, { on := 5, ground := Ground.data }], guard := none }) (v := ?_) rfl (by kernel_rfl) (by kernel_rfl) (by kernel_rfl) (fun _ _ _ h => h) (Or.inl ⟨by rfl, ?_⟩) (by assumption) ?_
    rotate_left
    · (intro w hSw; (try dsimp only at hSw); go_simp; first | done | with_reducible rfl)
    try simp only [Act.put, List.setIfInBounds_toArray, List.set_cons_zero, List.set_cons_succ]
    refine wpAnyH_take (i := 7) (oi := { dst := some 25, op := Op.load 23 (Operand.tmp 24), type := 23, pos := "domain.go:24", after := #[{ on := 6, ground := Ground.data }], guard := none }) (v := ?_) rfl (by kernel_rfl) (by kernel_rfl) (by kernel_rfl) (fun _ _ _ h => h) (Or.inl ⟨by rfl, ?_⟩) (by assumption) ?_
    rotate_left
    · (intro w hSw; (try dsimp only at hSw); go_simp; first | done | with_reducible rfl)
    try simp only [Act.put, List.setIfInBounds_toArray, List.set_cons_zero, List.set_cons_succ]
    refine wpAnyH_ready (rs := [8]) (by kernel_rfl) (by simp) ?_
    refine AllReadyH.cons (o := { dst := some 26, op := Op.call { callee := Callee.value (Operand.func 24), args := #[Operand.tmp 25], argTypes := #[23] }, type := 24, pos := "domain.go:24", after := #[{ on := 7, ground := Ground.data }], guard := none }) rfl (fun K hK => ?_) AllReadyH.nil
    go_simp
    refine (check64 a0 a1 a2 _ h0 h1 h2).mono ?_
    rintro e w2 ⟨rfl, hb⟩
    have hb : Below w1.heap.size w1 w2 := ⟨hb.os, hb.tape, hb.output, hb.size, hb.block⟩
    have W2 := Lib.hid (W1.out.trans (hb.mono W1.out.size))
    have N2 := Lib.hid (N1.out.keep hb)
    have f0 := N2.out.f0
    have f1 := N2.out.f1
    have f2 := N2.out.f2
    have d0 := N2.out.c0
    have d1 := N2.out.c1
    have d2 := N2.out.c2
    go_wp2_with fail
    refine hK.out _ _ ?_ (fun hHeld8 => ?_)
    · (obtain ⟨q0, q1, q2, q3⟩ := hHeld; exact ⟨(hb.cell (p := ⟨c0, 0, none⟩) (by first | (simp; done) | (simp; omega))).trans q0, (hb.cell (p := ⟨ba, oa + i * 3, none⟩) (by first | (simp; done) | (simp; omega))).trans q1, (hb.cell (p := ⟨ba, oa + i * 3 + 1, none⟩) (by first | (simp; done) | (simp; omega))).trans q2, (hb.cell (p := ⟨ba, oa + i * 3 + 2, none⟩) (by first | (simp; done) | (simp; omega))).trans q3⟩)
    clear hK K hHeld
    have hHeld := hHeld8
    clear hHeld8
    try simp only [Act.put, List.setIfInBounds_toArray, List.set_cons_zero, List.set_cons_succ]
    refine wpAnyH_ready (rs := [9]) (by kernel_rfl) (by simp) ?_
    refine AllReadyH.cons (o := { dst := none, op := Op.store 23 (Operand.tmp 3) (Operand.tmp 21), type := 0, pos := "domain.go:24", after := #[{ on := 3, ground := Ground.data }, { on := 8, ground := Ground.chain }, { on := 0, ground := Ground.phase }, { on := 1, ground := Ground.phase }, { on := 2, ground := Ground.phase }, { on := 3, ground := Ground.phase }, { on := 4, ground := Ground.textOnly Departure.lateStores }, { on := 5, ground := Ground.textOnly Departure.lateStores }, { on := 6, ground := Ground.textOnly Departure.lateStores }, { on := 7, ground := Ground.textOnly Departure.lateStores }, { on := 8, ground := Ground.textOnly Departure.lateStoresUnsure }], guard := none }) rfl (fun K hK => ?_) AllReadyH.nil
    go_simp
    refine hK.out _ _ ?_ (fun hHeld9 => ?_)
    · first | exact hHeld | exact ⟨p0, p1, p2, p3⟩ | (obtain ⟨q0, q1, q2, q3⟩ := hHeld; refine ⟨?_, ?_, ?_, ?_⟩ <;> simp [go_sem, *]; done) | go_keep
    clear hK K hHeld
    have hHeld := hHeld9
    clear hHeld9
    try simp only [Act.put, List.setIfInBounds_toArray, List.set_cons_zero, List.set_cons_succ]
    refine wpAnyH_take (i := 10) (oi := { dst := some 4, op := Op.assign (Operand.tmp 26), type := 24, pos := "domain.go:24", after := #[{ on := 8, ground := Ground.data }, { on := 9, ground := Ground.chain }, { on := 0, ground := Ground.phase }, { on := 1, ground := Ground.phase }, { on := 2, ground := Ground.phase }, { on := 3, ground := Ground.phase }, { on := 4, ground := Ground.phase }, { on := 5, ground := Ground.phase }, { on := 6, ground := Ground.phase }, { on := 7, ground := Ground.phase }, { on := 8, ground := Ground.phase }, { on := 9, ground := Ground.phase }], guard := none }) (v := ?_) rfl (by kernel_rfl) (by kernel_rfl) (by kernel_rfl) (fun _ _ _ h => h) (Or.inl ⟨by rfl, ?_⟩) (by assumption) ?_
    rotate_left
    · (intro w hSw; (try dsimp only at hSw); go_simp; first | done | with_reducible rfl)
    try simp only [Act.put, List.setIfInBounds_toArray, List.set_cons_zero, List.set_cons_succ]
    refine wpAnyH_done (by kernel_rfl) ?_ _
    have D := W2.out
    clear hHeld
    go_wp2
    refine bodyPost_ret (v := .tuple #[.agg #[.int .i64 a0, .int .i64 a1, .int .i64 a2], .int .i64 (chk a0 a1 a2)]) (by simp [results, Try.results140, go_sem, *]) rfl ⟨_, _, _, _, rfl, ?_, Lib.hid ⟨rfl, fun _ => ?_⟩⟩
    · repeat (first | exact D | refine Below.setCell ?_ (by simp; try omega) _)
    · unfold upR; rw [magA_pos (by have := HN.out; omega)]
/-- what the closure gives, in every world in which old memory lies as it lay -/
def GivesOf (c0 : Nat) (w0 : World) (n : Nat) (R : Nat → R3 → Int → Prop) : Prop := ∀ i : Nat, i < n → ∀ w : World, Below w0.heap.size w0 w →
  Calls Try.prog 140 #[.int .i64 i, .pointer (some ⟨c0, 0, none⟩)] w fun e w' => ∃ (x0 x1 x2 er : Int), e = .returned (.tuple #[.agg #[.int .i64 x0, .int .i64 x1, .int .i64 x2], .int .i64 er]) ∧ Below w.heap.size w w' ∧ Hid (R i (x0, x1, x2) er)
set_option maxRecDepth 100000 in
set_option maxHeartbeats 6400000 in
theorem eachOf (c0 : Nat) (v : Value) (L : List R3) (k s h : Int) (R : Nat → R3 → Int → Prop) (w : World) (hr : Rd w v L) (hn : L.length ≤ 2) (hg : GivesOf c0 w L.length R) :
    Calls Try.prog 139 #[.agg #[v, .int .i64 k, .int .i64 s, .int .i64 h], .func (.func 140) #[] #[.pointer (some ⟨c0, 0, none⟩)]] w (EachRet R L.length k s h w) := by
  obtain ⟨ao0, cap0, rfl, hc⟩ := hr
  obtain ⟨i0, hi, hz0, hz1, hz2⟩ := info_parts Try.infoRange
  have HG := Lib.hid hg
  clear hc hg
  generalize L.length = n at *
  clear L
  have E0 : Hid (ESt w (.slice ao0 n cap0) k s h [] none 0 (((w.alloc (.cells #[.slice ao0 n cap0, .int .i64 k, .int .i64 s, .int .i64 h] 62)).alloc (.cells #[.slice none 0 0, .int .i64 0, .int .i64 0, .int .i64 0] 62)).alloc (.cells #[.slice none 0 0, .int .i64 k, .int .i64 s, .int .i64 h] 62))) := Lib.hid ESt.new
  go_enter Try.func139, Try.ntmps139
  go_wp2_with fail
  go_loopg [7, 8, 9, 16] (n + 1) (fun gh _ _ _ v16 wr => ∃ (X : List R3) (ao : Option Addr) (cap : Nat), v16 = .int .i64 X.length ∧ (X.length ≤ n ∧ n - X.length < gh) ∧ Hid (∀ i x, X[i]? = some x → R i x 0) ∧ Hid (ESt w (.slice ao0 n cap0) k s h X ao cap wr))
  case atStart => exact ⟨[], none, 0, rfl, ⟨by simp, by simp⟩, Lib.hid (fun i x hx => by simp at hx), E0⟩
  case round =>
    obtain ⟨X, ao, cap, rfl, ⟨j0, jg⟩, hz, E1⟩ := hrel
    have KG := Lib.hid jg
    clear jg E0
    have r0 := E1.out.r.c0
    have r1 := E1.out.r.c1
    have r2 := E1.out.r.c2
    have r3 := E1.out.r.c3
    have g0 := E1.out.r.f0
    have z0 := E1.out.z.f0
    have z1 := E1.out.z.f1
    have z2 := E1.out.z.f2
    have z3 := E1.out.z.f3
    by_cases hj : X.length < n
    · have jw : IntKind.i64.wrap ((X.length : Int) + 1) = (X.length : Int) + 1 := IntWalk.i64_in _ (by omega)
      go_wp2_with fail
      refine (HG.out X.length hj _ E1.out.below).mono ?_
      rintro e w2 ⟨x0, x1, x2, er, rfl, hb2, FX⟩
      have E2 := Lib.hid (E1.out.keep hb2)
      clear hb2 E1 r0 r1 r2 r3 g0 z0 z1 z2 z3
      have E3 := Lib.hid (E2.out.keep (below_new w2 (.cells #[.int .i64 x0, .int .i64 x1, .int .i64 x2] 23)))
      have X3 := Lib.hid (B3.new (.int .i64 x0) (.int .i64 x1) (.int .i64 x2) 23 w2)
      clear E2
      by_cases c : er = 0
      · subst c
        go_upto_region 8 with fail
        generalize w2.alloc (.cells #[.int .i64 x0, .int .i64 x1, .int .i64 x2] 23) = w3 at *
        generalize w2.heap.size = xb at *
        have r0 := E3.out.r.c0
        have r1 := E3.out.r.c1
        have r2 := E3.out.r.c2
        have r3 := E3.out.r.c3
        have g0 := E3.out.r.f0
        have x0' := X3.out.c0
        have x1' := X3.out.c1
        have x2' := X3.out.c2
        have sz := E3.out.size
        have zx := X3.out.size
        go_wp2_with (first | (at_builtin; refine wpList_append_own _ rfl (.tmp 30) (.tmp 32) 40 rfl (w.heap.size + 3) 23 i0 (.agg #[.int .i64 0, .int .i64 0, .int .i64 0]) 3 24 Try.underlying40 hi hz0 hz1 hz2 rfl (by decide) _ X.length (cells3 X) rfl (E3.out.own.alloc _) ⟨w3.heap.size, 0, none⟩ 1 1 (cells3 [(x0, x1, x2)]) rfl rfl ?c1 ?c2 ?c3 ?c4 ?c5 ?_))
        case c1 => exact World.news_of_block (cs := #[.int .i64 x0, .int .i64 x1, .int .i64 x2]) (t := 23) (fr := (0, 0)) (heap_alloc_new w3 _)
        case c2 => exact cells3_one _
        case c3 => unfold maxLen; omega
        case c4 => omega
        case c5 => simp; omega
        intro v' w4 own4 grow4 _
        obtain ⟨g', cap', rfl⟩ := ownsRow_succ own4
        have E4 := Lib.hid ((E3.out.keep (below_new w3 (.cells #[.int .i64 x0, .int .i64 x1, .int .i64 x2] 23))).add own4 grow4)
        have B4 : Below (w.heap.size + 3) (w3.alloc (.cells #[.int .i64 x0, .int .i64 x1, .int .i64 x2] 23)) w4 := (Below.refl _ _).grown grow4 (by simp; omega) (fun g hg => (((E3.out.own.alloc (.cells #[.int .i64 x0, .int .i64 x1, .int .i64 x2] 23)).lt g hg)).1)
        have R4 := Lib.hid (blk_under (E3.out.r.keep (below_new w3 (.cells #[.int .i64 x0, .int .i64 x1, .int .i64 x2] 23))) B4 (by omega))
        clear own4 grow4 B4 E3 X3 r0 r1 r2 r3 g0 x0' x1' x2' sz zx
        have r0 := R4.out.c0
        have g0 := R4.out.f0
        go_wp2_with fail
        go_roundg (n - X.length)
        case measure => exact KG.out
        case rel => exact ⟨X ++ [(x0, x1, x2)], _, _, by simp, ⟨by simp; omega, by simp; omega⟩, Lib.hid (fun i x hx => by
            by_cases c : i < X.length
            · rw [List.getElem?_append_left c] at hx; exact hz.out i x hx
            · rw [List.getElem?_append_right (by omega)] at hx
              have e : i = X.length := by
                have := (List.getElem?_eq_some_iff.1 hx).1
                simp at this; omega
              subst e
              simp at hx; subst hx; exact FX.out), E4⟩
      · have c' : (er != 0) = true := by simp [c]
        have C := Lib.hid c
        clear c
        go_upto_region 7 with fail
        generalize w2.alloc (.cells #[.int .i64 x0, .int .i64 x1, .int .i64 x2] 23) = w3 at *
        have z0 := E3.out.z.f0
        have z1 := E3.out.z.f1
        have z2 := E3.out.z.f2
        have z3 := E3.out.z.f3
        have q0 := E3.out.z.c0
        have q1 := E3.out.z.c1
        have q2 := E3.out.z.c2
        have q3 := E3.out.z.c3
        go_wp2
        refine bodyPost_ret (v := .tuple #[.agg #[.slice none 0 0, .int .i64 0, .int .i64 0, .int .i64 0], .int .i64 er]) (by simp [results, Try.results139, go_sem, *]) rfl ⟨_, _, _, _, _, rfl, ?_, Lib.hid (Or.inr ⟨X.length, (x0, x1, x2), hj, FX.out, C.out, fun i hi => ?_, rfl, rfl, rfl, rfl⟩)⟩
        · repeat (first | exact E3.out.below | refine Below.setCell ?_ (by simp; try omega) _)
        · exact ⟨X[i]'hi, hz.out i _ (List.getElem?_eq_getElem hi)⟩
    · obtain rfl : X.length = n := by omega
      have q0 := E1.out.z.c0
      have q1 := E1.out.z.c1
      have q2 := E1.out.z.c2
      have q3 := E1.out.z.c3
      go_wp2
      refine bodyPost_ret (v := .tuple #[.agg #[.slice ao X.length cap, .int .i64 k, .int .i64 s, .int .i64 h], .int .i64 0]) (by simp [results, Try.results139, go_sem, *]) rfl ⟨_, _, _, _, _, rfl, ?_, Lib.hid (Or.inl ⟨X, rfl, hz.out, rfl, rfl, rfl, rfl, ?_⟩)⟩
      · repeat (first | exact E1.out.below | refine Below.setCell ?_ (by simp; try omega) _)
      · refine owns_base (base := w.heap.size + 3) ?_ (by omega)
        repeat (first | exact E1.out.own | refine ownsRow_setCell_below ?_ (by simp; try omega) _)
/-- the first error of ranges -/
def firstE : List R3 → Int
  | [] => 0
  | x :: L => if chk x.1 x.2.1 x.2.2 = 0 then firstE L else chk x.1 x.2.1 x.2.2
def ofErr (L : List R3) : Int := if rankB L.length = true then firstE L else 5
theorem firstE_zero : ∀ {L : List R3}, (∀ x ∈ L, chk x.1 x.2.1 x.2.2 = 0) → firstE L = 0
  | [], _ => rfl
  | x :: L, h => by unfold firstE; rw [if_pos (h x List.mem_cons_self)]; exact firstE_zero fun y hy => h y (List.mem_cons_of_mem _ hy)
theorem firstE_at : ∀ {L : List R3} {j : Nat} {x : R3}, L[j]? = some x → ¬ chk x.1 x.2.1 x.2.2 = 0 → (∀ i y, i < j → L[i]? = some y → chk y.1 y.2.1 y.2.2 = 0) → firstE L = chk x.1 x.2.1 x.2.2
  | [], j, x, hx, _, _ => by simp at hx
  | y :: L, 0, x, hx, hc, _ => by
    simp at hx; subst hx
    unfold firstE; rw [if_neg hc]
  | y :: L, j + 1, x, hx, hc, ha => by
    unfold firstE
    rw [if_pos (ha 0 y (by omega) rfl)]
    exact firstE_at (j := j) (by simpa using hx) hc fun i z hi hz => ha (i + 1) z (by omega) (by simpa using hz)
/-- what Of returns -/
def DOfRet (L : List R3) (w : World) : Ending → World → Prop := fun e w' => ∃ (v : Value) (er : Int), e = .returned (.tuple #[.agg #[v, .int .i64 0, .int .i64 0, .int .i64 0], .int .i64 er]) ∧ Below w.heap.size w w' ∧
  Hid (er = ofErr L ∧ ((er = 0 ∧ w'.ownsRow w.heap.size 23 3 v (L.map upR).length (cells3 (L.map upR))) ∨ (¬ er = 0 ∧ v = .slice none 0 0)))
theorem res14 {w w1 : World} {t t' : TypeId} {a p q r s : Value} (hb : Below ((w.alloc (.cells #[a] t)).alloc (.cells #[p, q, r, s] t')).heap.size ((w.alloc (.cells #[a] t)).alloc (.cells #[p, q, r, s] t')) w1) :
    Below w.heap.size w w1 ∧ w.heap.size < w1.heap.size ∧ w1.cell? ⟨w.heap.size, 0, none⟩ = some a ∧ Blk (w.heap.size + 1) p q r s w1 := by
  have e1 : (w.alloc (.cells #[a] t)).heap.size = w.heap.size + 1 := by simp
  have n1 := Blk.new p q r s t' (w.alloc (.cells #[a] t))
  rw [e1] at n1
  have hs : w.heap.size < ((w.alloc (.cells #[a] t)).alloc (.cells #[p, q, r, s] t')).heap.size := by simp; omega
  refine ⟨(((Below.refl _ _).alloc (Nat.le_refl _) _).alloc (by simp) _).trans (hb.mono (by simp; omega)), Nat.lt_of_lt_of_le hs hb.size, ?_, n1.keep hb⟩
  rw [hb.cell (p := ⟨w.heap.size, 0, none⟩) hs]; simp [go_sem]
set_option maxRecDepth 100000 in
set_option maxHeartbeats 6400000 in
theorem Dof_any (v : Value) (L : List R3) (w : World) (hr : Rd w v L) (hL : Ok3 L) :
    Calls Try.prog 60 #[v] w (DOfRet L w) := by
  obtain ⟨ao, cap, rfl, hc⟩ := hr
  have HR : Hid (Rd w (.slice ao L.length cap) L) := Lib.hid ⟨ao, cap, rfl, hc⟩
  have HCC := Lib.hid hc
  have HL := Lib.hid hL
  clear hc hL
  have R0 := Lib.hid (res14 (Below.refl _ ((w.alloc (.cells #[.slice ao L.length cap] 40)).alloc (.cells #[.slice none 0 0, .int .i64 0, .int .i64 0, .int .i64 0] 62))))
  go_enter Try.func60, Try.ntmps60
  go_upto_region 1 with fail
  generalize (w.alloc (.cells #[.slice ao L.length cap] 40)).alloc (.cells #[.slice none 0 0, .int .i64 0, .int .i64 0, .int .i64 0] 62) = w1 at *
  have x0 := R0.out.2.2.1
  have zx := R0.out.2.1
  have Z1 := Lib.hid R0.out.2.2.2
  have B1 := Lib.hid R0.out.1
  have z0 := Z1.out.c0
  have z1 := Z1.out.c1
  have z2 := Z1.out.c2
  have z3 := Z1.out.c3
  have f0 := Z1.out.f0
  have f1 := Z1.out.f1
  have f2 := Z1.out.f2
  have f3 := Z1.out.f3
  go_wp2_with fail
  refine (ranked_any _ _ _ _).mono ?_
  rintro e w' ⟨rfl, rfl⟩
  cases hq : rankB L.length
  · have E : Hid (ofErr L = 5) := Lib.hid (by unfold ofErr; rw [hq]; rfl)
    clear hq
    go_wp2
    refine bodyPost_ret (v := .tuple #[.agg #[.slice none 0 0, .int .i64 0, .int .i64 0, .int .i64 0], .int .i64 5]) (by simp [results, Try.results60, go_sem, *]) rfl ⟨_, _, rfl, ?_, Lib.hid ⟨E.out.symm, Or.inr ⟨by omega, rfl⟩⟩⟩
    repeat (first | exact B1.out | refine Below.setCell ?_ (by simp; try omega) _)
  · have E : Hid (ofErr L = firstE L) := Lib.hid (by unfold ofErr; rw [hq]; rfl)
    have rk : Hid (L.length = 1 ∨ L.length = 2) := Lib.hid (by unfold rankB at hq; simpa using hq)
    clear hq
    obtain ⟨ba, oa, rfl, hba, ca⟩ := HCC.out.resolve_left (by have := rk.out; omega)
    have CA := Lib.hid ca
    clear ca HCC
    go_wp2_with fail
    refine (eachOf w.heap.size _ L 0 0 0 (fun i (x : R3) er => ∃ A : R3, L[i]? = some A ∧ er = chk A.1 A.2.1 A.2.2 ∧ (er = 0 → x = upR A)) w1 (HR.out.keep B1.out) (by have := rk.out; omega) ?_).mono ?_
    · intro i hi w2 hb2
      obtain ⟨A, hA⟩ : ∃ A, L[i]? = some A := ⟨L[i], List.getElem?_eq_getElem hi⟩
      obtain ⟨a0, a1, a2⟩ := CA.out i A hA
      have S1 := B1.out.size
      have oA := HL.out A (List.mem_of_getElem? hA)
      have up : ∀ (b o : Nat) (u : Value), b < w.heap.size → w.cell? ⟨b, o, none⟩ = some u → w2.cell? ⟨b, o, none⟩ = some u := fun b o u hlt hu => by
        rw [hb2.cell (p := ⟨b, o, none⟩) (by simp; omega), B1.out.cell (p := ⟨b, o, none⟩) hlt]; exact hu
      refine (ofClo w.heap.size ba oa L.length cap i A.1 A.2.1 A.2.2 w2 ((hb2.cell (p := ⟨w.heap.size, 0, none⟩) zx).trans x0) (up _ _ _ hba a0) (up _ _ _ hba a1) (up _ _ _ hba a2) hi (by have := rk.out; omega) oA.1 oA.2.1 oA.2.2).mono ?_
      rintro e w3 ⟨y0, y1, y2, er, he, hb3, hF⟩
      exact ⟨y0, y1, y2, er, he, hb3, Lib.hid ⟨A, hA, hF.out.1, hF.out.2⟩⟩
    · rintro e w2 ⟨rv, kk, ss, hh, er, rfl, hb2, hE⟩
      have B2 := Lib.hid (B1.out.trans (hb2.mono B1.out.size))
      have Z2 := Lib.hid (Z1.out.keep hb2)
      have S1 := Lib.hid B1.out.size
      have HE : Hid ((kk = 0 ∧ ss = 0 ∧ hh = 0) ∧ er = firstE L ∧ ((er = 0 ∧ w2.ownsRow (w.heap.size + 2) 23 3 rv (L.map upR).length (cells3 (L.map upR))) ∨ (¬ er = 0 ∧ rv = .slice none 0 0))) := Lib.hid (by
        rcases hE.out with ⟨X, hX, hR, h1, h2, h3, h4, own⟩ | ⟨j, x, hj, hR, h1, hbef, h5, h2, h3, h4⟩
        · have eX : X = L.map upR := by
            apply List.ext_getElem?
            intro i
            by_cases hi : i < X.length
            · obtain ⟨A, hA, h6, h7⟩ := hR i _ (List.getElem?_eq_getElem hi)
              rw [List.getElem?_map, hA, List.getElem?_eq_getElem hi, h7 rfl]; rfl
            · rw [List.getElem?_eq_none (by omega), List.getElem?_eq_none (by simp; omega)]
          have eE : firstE L = 0 := firstE_zero fun x hx => by
            obtain ⟨i, hi, e⟩ := List.getElem_of_mem hx
            obtain ⟨A, hA, h6, _⟩ := hR i _ (List.getElem?_eq_getElem (show i < X.length by omega))
            rw [List.getElem?_eq_getElem hi, e] at hA
            cases hA; exact h6.symm
          subst eX
          exact ⟨⟨h2, h3, h4⟩, by rw [eE]; exact h1, Or.inl ⟨h1, owns_base own (by have := Z1.out.size; omega)⟩⟩
        · obtain ⟨A, hA, h6, _⟩ := hR
          refine ⟨⟨h2, h3, h4⟩, ?_, Or.inr ⟨h1, h5⟩⟩
          rw [h6]
          refine (firstE_at hA (by rw [← h6]; exact h1) fun i y hi hy => ?_).symm
          obtain ⟨z, A', hA', h8, _⟩ := hbef i hi
          rw [hy] at hA'
          cases hA'; exact h8.symm)
      clear hE hb2 x0 zx z0 z1 z2 z3 f0 f1 f2 f3
      have hrv : ∃ a n c, rv = .slice a n c := by
        rcases HE.out.2.2 with ⟨_, own⟩ | ⟨_, e⟩
        · obtain ⟨a, c, rfl⟩ := owns_slice own
          exact ⟨a, _, c, rfl⟩
        · exact ⟨_, _, _, e⟩
      obtain ⟨ra, rn, rc, rfl⟩ := hrv
      have HE2 := Lib.hid HE.out.2
      obtain ⟨rfl, rfl, rfl⟩ := HE.out.1
      clear HE
      have z0 := Z2.out.c0
      have z1 := Z2.out.c1
      have z2 := Z2.out.c2
      have z3 := Z2.out.c3
      have f0 := Z2.out.f0
      have f1 := Z2.out.f1
      have f2 := Z2.out.f2
      have f3 := Z2.out.f3
      go_wp2
      refine bodyPost_ret (v := .tuple #[.agg #[.slice ra rn rc, .int .i64 0, .int .i64 0, .int .i64 0], .int .i64 er]) (by simp [results, Try.results60, go_sem, *]) rfl ⟨_, _, rfl, ?_, Lib.hid ⟨by rw [E.out]; exact HE2.out.1, ?_⟩⟩
      · repeat (first | exact B2.out | refine Below.setCell ?_ (by simp; try omega) _)
      · rcases HE2.out.2 with ⟨h0, own⟩ | h0
        · refine Or.inl ⟨h0, owns_base (base := w.heap.size + 2) ?_ (by omega)⟩
          repeat (first | exact own | refine ownsRow_setCell_below ?_ (by simp; try omega) _)
        · exact Or.inr h0
end Go.Proofs.Ytabgphlpdoockaa
namespace Go.Proofs.Ytabgphlpdoockaa
open Go.RowKit Go.Shelf
attribute [local go_sem] Oper.semAt_some
/-- what a round of the loop keeps: memory below a block, and the box of the slice -/
def Kn (n₀ Bn : Nat) (W W' : World) : Prop := Below n₀ W W' ∧ W'.heap[Bn]? = W.heap[Bn]?
theorem kn_trans {n₀ Bn : Nat} {a b c : World} (h : Kn n₀ Bn a b) (k : Kn n₀ Bn b c) : Kn n₀ Bn a c := ⟨h.1.trans k.1, k.2.trans h.2⟩
abbrev NR := Nat × R3
/-- the first k of the positions and ranges, from behind -/
def backU (L : List R3) (k : Nat) : List NR := (List.range k).map fun j => (L.length - 1 - j, L.getD (L.length - 1 - j) (0, 0, 0))
theorem backU_succ (L : List R3) (k : Nat) : backU L (k + 1) = backU L k ++ [(L.length - 1 - k, L.getD (L.length - 1 - k) (0, 0, 0))] := by
  unfold backU; rw [List.range_succ, List.map_append]; rfl
theorem backU_length (L : List R3) (k : Nat) : (backU L k).length = k := by unfold backU; simp
theorem backU_prefix (L : List R3) {k n : Nat} (hk : k ≤ n) : backU L k <+: backU L n := by
  induction n with
  | zero => obtain rfl : k = 0 := by omega
            exact List.prefix_refl _
  | succ n ih =>
    by_cases c : k = n + 1
    · subst c; exact List.prefix_refl _
    · rw [backU_succ]; exact (ih (by omega)).trans (List.prefix_append _ _)
/-- the cells of a list of ranges -/
def At3 (w : World) (b o : Nat) (L : List R3) : Prop := ∀ (j : Nat) (x : R3), L[j]? = some x → w.cell? ⟨b, o + j * 3, none⟩ = some (.int .i64 x.1) ∧ w.cell? ⟨b, o + j * 3 + 1, none⟩ = some (.int .i64 x.2.1) ∧ w.cell? ⟨b, o + j * 3 + 2, none⟩ = some (.int .i64 x.2.2)
theorem At3.under {w w' : World} {b o B : Nat} {L : List R3} (h : At3 w b o L) (hb : Below B w w') (hlt : b < B) : At3 w' b o L := fun j x hx =>
  ⟨(hb.cell (p := ⟨b, o + j * 3, none⟩) hlt).trans (h j x hx).1, (hb.cell (p := ⟨b, o + j * 3 + 1, none⟩) hlt).trans (h j x hx).2.1, (hb.cell (p := ⟨b, o + j * 3 + 2, none⟩) hlt).trans (h j x hx).2.2⟩
theorem row1 {w : World} {g : Nat} {a : Value} {t : TypeId} (h : w.heap[g]? = some (.cells #[a] t (0, 0))) : w.cell? ⟨g, 0, none⟩ = some a := by simp [World.cell?, h]
set_option maxRecDepth 100000 in
set_option maxHeartbeats 3200000 in
theorem back1_in (n : Nat) (hn : 1 ≤ n) (l' Bn n₀ b o cap : Nat) (L : List R3) (hb : b < n₀) (hL2 : L.length ≤ 2) (J Jx : List NR → World → Prop)
    (hY : ∀ pre x W, J pre W → pre.length < L.length → L[x.1]? = some x.2 → YieldAt Fence.wide (n - 1) Try.prog l' #[.int .i64 (x.1 : Nat), .agg #[.int .i64 x.2.1, .int .i64 x.2.2.1, .int .i64 x.2.2.2]] W fun e W' =>
      (e = .returned (.bool true) ∧ J (pre ++ [x]) W' ∧ Kn n₀ Bn W W') ∨ (e = .returned (.bool false) ∧ Jx (pre ++ [x]) W'))
    (W : World) (hBn : Hid (W.heap[Bn]? = some (.cells #[.slice (some ⟨b, o, none⟩) L.length cap] 40 (0, 0)))) (hc : Hid (At3 W b o L)) (h0 : J [] W) :
    CallsIn Fence.wide n Try.prog 174 #[.func (.yield l') #[] #[], .pointer (some ⟨Bn, 0, none⟩)] W fun e W' => (∃ v, e = .returned v) ∧
      ((∃ ys, ys = backU L L.length ∧ J ys W') ∨ (∃ pre, pre <+: backU L L.length ∧ Jx pre W')) := by
  have HY := Lib.hid hY
  have J0 := Lib.hid h0
  have x0 := row1 hBn.out
  clear hY h0
  refine callsIn_of_wp Try.func174 rfl trivial ?_ rfl
  simp only [Try.ntmps174, List.size_toArray, List.length_cons, List.length_nil, Nat.reduceAdd, Nat.reduceSub, Array.replicate_succ, Array.replicate_zero, List.push_toArray, List.append_toArray, List.nil_append, List.cons_append]
  gi_wp2_with fail
  gi_loopw [3] (fun v wr => ∃ (k : Nat) (iv : Int), v = .int .i64 iv ∧ k ≤ L.length ∧ Hid (iv = (L.length : Int) - 1 - k) ∧ Hid (J (backU L k) wr) ∧ Hid (wr.heap[Bn]? = some (.cells #[.slice (some ⟨b, o, none⟩) L.length cap] 40 (0, 0))) ∧ Hid (At3 wr b o L))
    (fun v _ => (intOf v + 1).toNat)
  case atStart => exact ⟨0, _, rfl, Nat.zero_le _, Lib.hid (by simp), J0, hBn, hc⟩
  case round =>
    obtain ⟨k, iv, rfl, hk, hiv, J1, B1, C1⟩ := hrel
    clear x0
    by_cases hlt : k < L.length
    · obtain ⟨j, rfl⟩ : ∃ j : Nat, iv = (j : Int) := ⟨L.length - 1 - k, by rw [hiv.out]; omega⟩
      have ej : Hid (j = L.length - 1 - k) := Lib.hid (by have := hiv.out; omega)
      have jl : j < L.length := by have := ej.out; omega
      obtain ⟨x, hx⟩ : ∃ x, L[j]? = some x := ⟨L[j], List.getElem?_eq_getElem jl⟩
      obtain ⟨p0, p1, p2⟩ := C1.out j x hx
      have eb : Hid (backU L (k + 1) = backU L k ++ [(j, x)]) := Lib.hid (by rw [backU_succ, ← ej.out]; simp [List.getD, hx])
      have y0 := row1 B1.out
      have jw : IntKind.i64.wrap ((j : Int) - 1) = (j : Int) - 1 := IntWalk.i64_in _ (by omega)
      have j0 : (0 : Int) ≤ j := by omega
      obtain ⟨fn, tmps, assign, body, hy, hR⟩ := HY.out (backU L k) (j, x) wr J1.out (by rw [backU_length]; exact hlt) hx
      have KK := Lib.hid hk
      clear hx hk
      gi_wp2
      refine hR.mono ?_
      rintro e W3 (⟨rfl, hJ3, hk3⟩ | ⟨rfl, hJx3⟩)
      · have J3 := Lib.hid hJ3
        have B3' := Lib.hid (hk3.2.trans B1.out)
        have C3 := Lib.hid (C1.out.under hk3.1 hb)
        clear hJ3 hk3 hR hy p0 p1 p2 y0 J1 B1 C1
        gi_wp2
        go_roundw
        case rel => exact ⟨k + 1, _, rfl, by omega, Lib.hid (by have := ej.out; push_cast; omega), by rw [eb.out]; exact J3, B3', C3⟩
        case measure => simp [intOf]
      · have JX := Lib.hid hJx3
        clear hJx3 hR hy
        gi_wp2
        refine bodyPost_ret (results_none rfl _ _ _) rfl ?_
        refine ⟨⟨_, rfl⟩, .inr ⟨_, ?_, JX.out⟩⟩
        rw [← eb.out]
        exact backU_prefix L (by omega)
    · obtain rfl : k = L.length := by omega
      have neg : iv < 0 := by rw [hiv.out]; omega
      gi_wp2
      go_end0
      exact ⟨⟨_, rfl⟩, .inl ⟨_, rfl, J1.out⟩⟩
/-- Backward hands back a closure over a box of the slice. -/
theorem back_any (v : Option Addr) (n c : Nat) (w : World) : Calls Try.prog 143 #[.slice v n c] w fun e w' => e = .returned (.func (.func 174) #[] #[.pointer (some ⟨w.heap.size, 0, none⟩)]) ∧ w.alloc (.cells #[.slice v n c] 40) = w' := by
  go_enter Try.func143, Try.ntmps143
  go_wp2
  go_ret
  exact ⟨rfl, rfl⟩
end Go.Proofs.Ytabgphlpdoockaa
namespace Go.Proofs.Ytabgphlpdoockaa
open Go.RowKit
/-- an operation that is no defer -/
def noDef (o : Oper) : Bool := match o.op with | .defer _ => false | _ => true
theorem noDef_ne {o : Oper} (h : noDef o = true) (c : Call) : o.op ≠ .defer c := by
  intro e; unfold noDef at h; rw [e] at h; cases h
theorem wpOpIn_of_wpOp {l n : Nat} {P : Program} {ops : Array Oper} {Q : Exit → Act → World → Prop} {i : Nat} {K : Act → World → Prop} {a : Act} {w : World} (hnd : ops.all noDef = true) (hQ : ¬ LetsOut Q)
    (h : wpOp P ops Q i K a w) : wpOpIn (Fence.wide.inRound l) n P ops Q i K a w := by
  unfold wpOp at h
  unfold wpOpIn
  cases ho : ops[i]? with
  | none => rw [ho] at h; exact h
  | some o =>
    rw [ho] at h
    have nd : noDef o = true := by
      obtain ⟨hi, e⟩ := Array.getElem?_eq_some_iff.1 ho
      have := Array.all_eq_true.1 hnd i hi
      rwa [e] at this
    simp only at h ⊢
    split
    · rename_i hw
      rw [if_pos hw] at h
      rcases h with h | ⟨_, h⟩
      · unfold Oper.wpIn
        refine ⟨fun _ _ => trivial, ?_⟩
        rw [Oper.semAt_eq _ _ _ (noDef_ne nd)]
        unfold Oper.wp at h
        generalize (execOp a.eval o).run P w = r at *
        cases r with
        | ok x w' =>
          cases x <;> simp only [Oper.upon] at h <;> simp only [Oper.uponIn]
          all_goals first
            | exact h
            | exact h.elim
            | exact ⟨fun e => by simp [Fence.wide] at e, (callsIn_wide.2 h : CallsIn Fence.wide (n - 1) P _ _ _ _)⟩
            | exact ⟨fun e => by simp [Fence.wide] at e, fun c cs _ => let ⟨v, w', r, s⟩ := h c cs; ⟨v, w', r, stepsIn_wide.2 s⟩⟩
        | halt x w' => cases x <;> simp only [Oper.upon] at h <;> simp only [Oper.uponIn] <;> first | exact h | exact h.elim
      · exact absurd h hQ
    · rename_i hw
      rw [if_neg hw] at h
      exact ⟨fun _ _ => trivial, h⟩
theorem wpAnyIn_of_wpAny {l n : Nat} {P : Program} {md : Region.Mode} {ops : Array Oper} {Q : Exit → Act → World → Prop} (hnd : ops.all noDef = true) (hQ : ¬ LetsOut Q) :
    ∀ (fuel : Nat) (listed : Array Bool) (a : Act) (w : World), wpAny P md ops Q fuel listed a w → wpAnyIn (Fence.wide.inRound l) n P md ops Q fuel listed a w
  | 0, _, _, _, h => h
  | fuel + 1, _, _, _, h => ⟨h.1, fun i hi => wpOpIn_mono (fun _ _ h' => wpAnyIn_of_wpAny hnd hQ fuel _ _ _ h') (wpOpIn_of_wpOp hnd hQ (h.2 i hi))⟩
/-- the region's law, in a round -/
theorem wpIn_round_held {l n : Nat} {P : Program} {id : Nat} {ops : Array Oper} {Q : Exit → Act → World → Prop} {S : World → Prop} {a : Act} {w : World} (hm : P.follows .mixedOrders = true) (hnd : ops.all noDef = true) (hS : S w.drew)
    (h : S w.drew → wpAnyH P .any ops (fun e a w => e = .normal ∧ Q .normal a w) S ops.size (Array.replicate ops.size false) a w.drew) : (Code.region id ops true).wpIn (Fence.wide.inRound l) n P Q a w :=
  wpIn_mono (wpIn_region_any hm (wpAnyIn_of_wpAny (Q := fun e a w => e = .normal ∧ Q .normal a w) hnd (fun h' => by obtain ⟨_, _, h1, _⟩ := h'; exact nomatch h1) _ _ _ _ (wpAny_of_held _ _ _ _ (h hS)))) (by rintro _ _ _ ⟨rfl, h⟩; exact h)
end Go.Proofs.Ytabgphlpdoockaa
