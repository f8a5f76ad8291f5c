/-
  Part 17: RDN.
-/
import Derived.Test.YtabgphlpdoockaaDo4
import Derived.Test.YtabgphlpdoockaaDo11
import Derived.Test.YtabgphlpdoockaaDo14
import Derived.BigQuiet
import Derived.Deep.CutBlock
import Derived.Deep.DeepCutAuto
import Derived.Deep.DrawnRows
import Derived.Deep.LoopGhost
import Derived.Deep.QuietTactic
import Derived.Deep.RegionHeld3
import Derived.Deep.RegionWith
import Derived.Lib.Hide
import Derived.WalkKit
import Derived.WalkLawsBesides
import Derived.WalkSpells
namespace Go.Proofs.Ytabgphlpdoockaa
open Go.RowKit
open Go.Op in
theorem eq_map (a b c a' b' c' : Int) (w : World) : (binOp .eql 60 (.agg #[.int .i64 a, .int .i64 b, .int .i64 c]) (.agg #[.int .i64 a', .int .i64 b', .int .i64 c'])).run Try.prog w = .ok (.bool (reqB a b c a' b' c')) w := by
  unfold reqB
  by_cases h1 : a = a'
  · by_cases h2 : b = b'
    · by_cases h3 : c = c'
      · simp [go_sem, h1, h2, h3]
      · simp [go_sem, h1, h2, h3]
    · simp [go_sem, h1, h2]
  · simp [go_sem, h1]
theorem reqB_same (a b c : Int) : reqB a b c a b c = true := reqB_iff.2 ⟨rfl, rfl, rfl⟩
set_option maxRecDepth 100000 in
/-- Equal of two domains that read alike -/
theorem Dequal_same (v v' : Value) (L : List R3) (k s h : Int) (w : World) (hr : Rd w v L) (hr' : Rd w v' L) (hn : L.length ≤ 5000) :
    Calls Try.prog 66 #[.agg #[v, .int .i64 k, .int .i64 s, .int .i64 h], .agg #[v', .int .i64 k, .int .i64 s, .int .i64 h]] w fun e w' => e = .returned (.bool true) ∧ Below w.heap.size w w' := by
  obtain ⟨ao, cap, rfl, hc⟩ := hr
  obtain ⟨ao', cap', rfl, hc'⟩ := hr'
  have HR : Hid (Rd w (.slice ao L.length cap) L) := Lib.hid ⟨ao, cap, rfl, hc⟩
  have HR' : Hid (Rd w (.slice ao' L.length cap') L) := Lib.hid ⟨ao', cap', rfl, hc'⟩
  have HN := Lib.hid hn
  have em := eq_map k s h k s h
  rw [reqB_same] at em
  clear hc hc' hn
  go_enter Try.func66, Try.ntmps66
  go_wp2_with fail
  refine (equalR_any _ _ L L _ ((HR.out.keep (below_new _ _)).keep (below_new _ _)) ((HR'.out.keep (below_new _ _)).keep (below_new _ _)) HN.out).mono ?_
  rintro e w1 ⟨rfl, hb1⟩
  have R1 := res44 hb1
  have B1 := Lib.hid R1.1
  have x1 := R1.2.1.c1
  have x2 := R1.2.1.c2
  have x3 := R1.2.1.c3
  have y1 := R1.2.2.c1
  have y2 := R1.2.2.c2
  have y3 := R1.2.2.c3
  have dt : decide (L = L) = true := decide_eq_true rfl
  rw [dt]
  clear hb1 R1 dt
  go_wp2
  exact bodyPost_ret (v := .bool true) (by simp [results, Try.results66, go_sem, *]) rfl ⟨rfl, B1.out⟩
theorem idxL_one' {L : List R3} {x : R3} {i : Int} (hn : L.length = 1) (hx : L[0]? = some x) (h0 : 0 ≤ i) (h1 : i < prodL L) : idxL L i = [nthN x.1 x.2.1 x.2.2 i] := by
  match L, hn, hx with
  | [a], _, hx =>
    simp at hx; subst hx
    simp only [prodL] at h1
    rw [idxL_one, Int.emod_eq_of_lt h0 h1]
theorem idxL_two' {L : List R3} {x y : R3} {i : Int} (hn : L.length = 2) (hx : L[0]? = some x) (hy : L[1]? = some y) (h0 : 0 ≤ i) (h1 : i < prodL L) (hp : 1 ≤ siz y.1 y.2.1 y.2.2) :
    idxL L i = [nthN x.1 x.2.1 x.2.2 (i / siz y.1 y.2.1 y.2.2), nthN y.1 y.2.1 y.2.2 (i % siz y.1 y.2.1 y.2.2)] := by
  match L, hn, hx, hy with
  | [a, b], _, hx, hy =>
    simp at hx hy; subst hx hy
    simp only [prodL] at h1
    have q0 := Int.ediv_nonneg h0 (show 0 ≤ siz b.1 b.2.1 b.2.2 by omega)
    have q1 : i / siz b.1 b.2.1 b.2.2 < siz a.1 a.2.1 a.2.2 := Int.ediv_lt_of_lt_mul (by omega) h1
    rw [idxL_two, Int.emod_eq_of_lt q0 q1]
set_option maxRecDepth 100000 in
set_option maxHeartbeats 6400000 in
theorem rDnth_any (v : Value) (L : List R3) (k s h i : Int) (w : World) (hr : Rd w v L) (hL : Ok3 L) :
    Calls Try.prog 63 #[.agg #[v, .int .i64 k, .int .i64 s, .int .i64 h], .int .i64 i] w (DNthRet L k s h i w) := by
  obtain ⟨ao, cap, rfl, hc⟩ := hr
  have HR : Hid (Rd w (.slice ao L.length cap) L) := Lib.hid ⟨ao, cap, rfl, hc⟩
  have HC := Lib.hid hc
  have HL := Lib.hid hL
  clear hc hL
  go_enter Try.func63, Try.ntmps63
  go_wp2_with fail
  refine (rDcheck_any _ L _ _ _ _ (HR.out.keep (below_new _ _)) HL.out).mono ?_
  rintro e w1 ⟨rfl, hb1⟩
  have R1 := resD hb1
  have D1 : Hid (DSt w (.slice ao L.length cap) k s h w1) := Lib.hid ⟨R1.1, R1.2⟩
  clear hb1 R1
  by_cases c : dchk L k s h = 0
  · have c' : (dchk L k s h != 0) = false := by simp [c]
    have ES : Hid (dsiz L k s h = prodL L) := Lib.hid (by unfold dsiz; rw [if_pos c])
    have EN : Hid (dnthE L k s h i = if 0 ≤ i ∧ i < prodL L then 0 else 4) := Lib.hid (by unfold dnthE; rw [if_pos c])
    have rk := Lib.hid (dchk_rank c)
    clear c
    by_cases n0 : i < 0
    · have E : Hid (dnthE L k s h i = 4) := Lib.hid (by rw [EN.out, if_neg (by omega)])
      have n0' : decide (i < 0) = true := by simp [n0]
      go_wp2
      exact bodyPost_ret (v := .tuple #[.slice none 0 0, .int .i64 4]) (by simp [results, Try.results63, go_sem, *]) rfl ⟨_, _, rfl, D1.out.below, Lib.hid ⟨E.out.symm, Or.inr ⟨by omega, rfl⟩⟩⟩
    · have n0' : decide (i < 0) = false := by simp [n0]
      have x0 := D1.out.d.c0
      have x1 := D1.out.d.c1
      have x2 := D1.out.d.c2
      have x3 := D1.out.d.c3
      go_wp2_with fail
      refine (rDsize_any _ L _ _ _ _ (HR.out.keep D1.out.below) HL.out).mono ?_
      rintro e w2 ⟨rfl, hb2⟩
      rw [ES.out]
      have D2 := Lib.hid (D1.out.keep hb2)
      clear hb2 D1 x0 x1 x2 x3 c'
      have I0 : Hid (0 ≤ i) := Lib.hid (by omega)
      by_cases q : prodL L ≤ i
      · have E : Hid (dnthE L k s h i = 4) := Lib.hid (by rw [EN.out, if_neg (by omega)])
        have q' : decide (prodL L ≤ i) = true := by simp [q]
        go_wp2
        exact bodyPost_ret (v := .tuple #[.slice none 0 0, .int .i64 4]) (by simp [results, Try.results63, go_sem, *]) rfl ⟨_, _, rfl, D2.out.below, Lib.hid ⟨E.out.symm, Or.inr ⟨by omega, rfl⟩⟩⟩
      · have E : Hid (dnthE L k s h i = 0) := Lib.hid (by rw [EN.out, if_pos (by omega)])
        have q' : decide (prodL L ≤ i) = false := by simp; omega
        have I1 : Hid (i < prodL L) := Lib.hid (by omega)
        obtain ⟨b, o, rfl, hb, hcell⟩ := HC.out.resolve_left (by have := rk.out; omega)
        have CL := Lib.hid hcell
        have x0 := D2.out.d.c0
        clear hcell HC
        by_cases n1 : L.length = 1
        · obtain ⟨x, hx⟩ : ∃ x, L[0]? = some x := ⟨L[0]'(by omega), List.getElem?_eq_getElem _⟩
          have IX := Lib.hid (idxL_one' n1 hx I0.out I1.out)
          have PX := CL.out 0 x hx
          simp only [Nat.zero_mul, Nat.add_zero] at PX
          have p0 := (D2.out.below.cell (p := ⟨b, o, none⟩) hb).trans PX.1
          have p1 := (D2.out.below.cell (p := ⟨b, o + 1, none⟩) hb).trans PX.2.1
          have p2 := (D2.out.below.cell (p := ⟨b, o + 2, none⟩) hb).trans PX.2.2
          have ox := HL.out x (List.mem_of_getElem? hx)
          have e1 : ((L.length : Int) == 1) = true := by simp; omega
          have h0 : 0 < L.length := by omega
          clear PX hx n1
          go_wp2_with fail
          refine (refNth_any x.1 x.2.1 x.2.2 i _ ox.1 ox.2.1 ox.2.2).mono ?_
          rintro e w3 ⟨rfl, hb3⟩
          have D3 := Lib.hid (D2.out.keep hb3)
          clear hb3 D2 x0 p0 p1 p2
          go_wp2
          refine bodyPost_ret (v := .tuple #[.slice (some ⟨w3.heap.size, 0, none⟩) 1 1, .int .i64 0]) (by simp [results, Try.results63, go_sem, *]) rfl ⟨_, _, rfl, D3.out.below.trans ((below_new _ _).mono D3.out.below.size), Lib.hid ⟨E.out.symm, Or.inl ⟨rfl, ?_⟩⟩⟩
          rw [IX.out]
          exact World.ownsRow_lit w3 #[.int .i64 (nthN x.1 x.2.1 x.2.2 i)] 1 D3.out.below.size (by unfold maxLen; omega) (by simp)
        · have n2 : L.length = 2 := by have := rk.out; omega
          obtain ⟨x, hx⟩ : ∃ x, L[0]? = some x := ⟨L[0]'(by omega), List.getElem?_eq_getElem _⟩
          obtain ⟨y, hy⟩ : ∃ y, L[1]? = some y := ⟨L[1]'(by omega), List.getElem?_eq_getElem _⟩
          have SP : Hid (1 ≤ siz y.1 y.2.1 y.2.2) := Lib.hid (siz_pos_of (by omega) (by have := I0.out; have := I1.out; omega) (List.mem_of_getElem? hy))
          have IX := Lib.hid (idxL_two' n2 hx hy I0.out I1.out SP.out)
          have PX := CL.out 0 x hx
          simp only [Nat.zero_mul, Nat.add_zero] at PX
          have PY := CL.out 1 y hy
          simp only [Nat.one_mul] at PY
          have HX := Lib.hid PX
          have HY := Lib.hid PY
          have ox := HL.out x (List.mem_of_getElem? hx)
          have oy := HL.out y (List.mem_of_getElem? hy)
          have e1 : ((L.length : Int) == 1) = false := by simp; omega
          have h0 : 0 < L.length := by omega
          have h1 : 1 < L.length := by omega
          have h1i : 1 < (L.length : Int) := by omega
          have PB := prodL_bd L
          have I2 := I1.out
          have I3 := I0.out
          have sp := SP.out
          have sb := siz_bdA y.1 y.2.1 y.2.2
          have jr : i.tmod (siz y.1 y.2.1 y.2.2) = i % siz y.1 y.2.1 y.2.2 := IntWalk.rem_in _ _ (by omega)
          have jq : IntKind.i64.wrap (i.tdiv (siz y.1 y.2.1 y.2.2)) = i / siz y.1 y.2.1 y.2.2 := IntWalk.i64_quo _ _ ⟨by omega, by omega, by omega⟩
          have sn : ¬ siz y.1 y.2.1 y.2.2 = 0 := by omega
          have p0 := (D2.out.below.cell (p := ⟨b, o + 3, none⟩) hb).trans PY.1
          have p1 := (D2.out.below.cell (p := ⟨b, o + 3 + 1, none⟩) hb).trans PY.2.1
          have p2 := (D2.out.below.cell (p := ⟨b, o + 3 + 2, none⟩) hb).trans PY.2.2
          clear PX PY hx hy n1 n2 PB I2 I3
          go_wp2_with fail
          refine (refSize_any y.1 y.2.1 y.2.2 _ oy.1 oy.2.1 oy.2.2).mono ?_
          rintro e w3 ⟨rfl, hb3⟩
          have D3 := Lib.hid (D2.out.keep hb3)
          clear hb3 D2 x0 p0 p1 p2
          go_upto_region 10 with fail
          refine wp_region_held_drew (S := (fun w' => DSt w (.slice (some ⟨b, o, none⟩) L.length cap) k s h w')) (by kernel_rfl) (D3.out.keep (to_drew (Below.refl _ _))) (fun hHeld => ?_)
          clear D3
          obtain ⟨v0, hv0⟩ : ∃ v0, v0 = w3.drew := ⟨_, rfl⟩
          rw [← hv0] at hHeld ⊢
          clear hv0
          refine wpAnyH_take (i := 0) (oi := { dst := some 48, op := Op.fieldAddr 62 (Operand.tmp 2) 0, type := 0, pos := "ref.go:102", after := #[], guard := none }) (v := ?_) rfl (by kernel_rfl) (by kernel_rfl) (by kernel_rfl) (fun _ _ _ h => h) (Or.inl ⟨by rfl, ?_⟩) (by assumption) ?_
          rotate_left
          · (intro wq hSw; (try dsimp only at hSw); have d0 := hSw.d.c0; have p0 := (hSw.below.cell (p := ⟨b, o, none⟩) hb).trans HX.out.1; have p1 := (hSw.below.cell (p := ⟨b, o + 1, none⟩) hb).trans HX.out.2.1; have p2 := (hSw.below.cell (p := ⟨b, o + 2, none⟩) hb).trans HX.out.2.2; clear hSw; go_simp; first | done | with_reducible rfl)
          try simp only [Act.put, List.setIfInBounds_toArray, List.set_cons_zero, List.set_cons_succ]
          refine wpAnyH_take (i := 1) (oi := { dst := some 49, op := Op.load 40 (Operand.tmp 48), type := 40, pos := "ref.go:102", after := #[{ on := 0, ground := Ground.data }], guard := none }) (v := ?_) rfl (by kernel_rfl) (by kernel_rfl) (by kernel_rfl) (fun _ _ _ h => h) (Or.inl ⟨by rfl, ?_⟩) (by assumption) ?_
          rotate_left
          · (intro wq hSw; (try dsimp only at hSw); have d0 := hSw.d.c0; have p0 := (hSw.below.cell (p := ⟨b, o, none⟩) hb).trans HX.out.1; have p1 := (hSw.below.cell (p := ⟨b, o + 1, none⟩) hb).trans HX.out.2.1; have p2 := (hSw.below.cell (p := ⟨b, o + 2, none⟩) hb).trans HX.out.2.2; clear hSw; go_simp; first | done | with_reducible rfl)
          try simp only [Act.put, List.setIfInBounds_toArray, List.set_cons_zero, List.set_cons_succ]
          refine wpAnyH_take (i := 2) (oi := { dst := some 50, op := Op.indexAddr 40 (Operand.tmp 49) (Operand.const (Value.int IntKind.i64 0)), type := 0, pos := "ref.go:102", after := #[{ on := 1, ground := Ground.data }], guard := none }) (v := ?_) rfl (by kernel_rfl) (by kernel_rfl) (by kernel_rfl) (fun _ _ _ h => h) (Or.inl ⟨by rfl, ?_⟩) (by assumption) ?_
          rotate_left
          · (intro wq hSw; (try dsimp only at hSw); have d0 := hSw.d.c0; have p0 := (hSw.below.cell (p := ⟨b, o, none⟩) hb).trans HX.out.1; have p1 := (hSw.below.cell (p := ⟨b, o + 1, none⟩) hb).trans HX.out.2.1; have p2 := (hSw.below.cell (p := ⟨b, o + 2, none⟩) hb).trans HX.out.2.2; clear hSw; go_simp; first | done | with_reducible rfl)
          try simp only [Act.put, List.setIfInBounds_toArray, List.set_cons_zero, List.set_cons_succ]
          refine wpAnyH_take (i := 3) (oi := { dst := some 51, op := Op.load 23 (Operand.tmp 50), type := 23, pos := "ref.go:102", after := #[{ on := 2, ground := Ground.data }], guard := none }) (v := ?_) rfl (by kernel_rfl) (by kernel_rfl) (by kernel_rfl) (fun _ _ _ h => h) (Or.inl ⟨by rfl, ?_⟩) (by assumption) ?_
          rotate_left
          · (intro wq hSw; (try dsimp only at hSw); have d0 := hSw.d.c0; have p0 := (hSw.below.cell (p := ⟨b, o, none⟩) hb).trans HX.out.1; have p1 := (hSw.below.cell (p := ⟨b, o + 1, none⟩) hb).trans HX.out.2.1; have p2 := (hSw.below.cell (p := ⟨b, o + 2, none⟩) hb).trans HX.out.2.2; clear hSw; go_simp; first | done | with_reducible rfl)
          try simp only [Act.put, List.setIfInBounds_toArray, List.set_cons_zero, List.set_cons_succ]
          refine wpAnyH_take (i := 4) (oi := { dst := some 52, op := Op.move (Operand.tmp 1), type := 3, pos := "ref.go:102", after := #[], guard := none }) (v := ?_) rfl (by kernel_rfl) (by kernel_rfl) (by kernel_rfl) (fun _ _ _ h => h) (Or.inl ⟨by rfl, ?_⟩) (by assumption) ?_
          rotate_left
          · (intro wq hSw; (try dsimp only at hSw); have d0 := hSw.d.c0; have p0 := (hSw.below.cell (p := ⟨b, o, none⟩) hb).trans HX.out.1; have p1 := (hSw.below.cell (p := ⟨b, o + 1, none⟩) hb).trans HX.out.2.1; have p2 := (hSw.below.cell (p := ⟨b, o + 2, none⟩) hb).trans HX.out.2.2; clear hSw; go_simp; first | done | with_reducible rfl)
          try simp only [Act.put, List.setIfInBounds_toArray, List.set_cons_zero, List.set_cons_succ]
          refine wpAnyH_take (i := 5) (oi := { dst := some 53, op := Op.move (Operand.tmp 9), type := 3, pos := "ref.go:102", after := #[], guard := none }) (v := ?_) rfl (by kernel_rfl) (by kernel_rfl) (by kernel_rfl) (fun _ _ _ h => h) (Or.inl ⟨by rfl, ?_⟩) (by assumption) ?_
          rotate_left
          · (intro wq hSw; (try dsimp only at hSw); have d0 := hSw.d.c0; have p0 := (hSw.below.cell (p := ⟨b, o, none⟩) hb).trans HX.out.1; have p1 := (hSw.below.cell (p := ⟨b, o + 1, none⟩) hb).trans HX.out.2.1; have p2 := (hSw.below.cell (p := ⟨b, o + 2, none⟩) hb).trans HX.out.2.2; clear hSw; go_simp; first | done | with_reducible rfl)
          try simp only [Act.put, List.setIfInBounds_toArray, List.set_cons_zero, List.set_cons_succ]
          refine wpAnyH_take (i := 6) (oi := { dst := some 54, op := Op.binOp BinOp.quo 3 (Operand.tmp 52) (Operand.tmp 53) 3, type := 3, pos := "ref.go:102", after := #[{ on := 4, ground := Ground.data }, { on := 5, ground := Ground.data }], guard := none }) (v := ?_) rfl (by kernel_rfl) (by kernel_rfl) (by kernel_rfl) (fun _ _ _ h => h) (Or.inl ⟨by rfl, ?_⟩) (by assumption) ?_
          rotate_left
          · (intro wq hSw; (try dsimp only at hSw); have d0 := hSw.d.c0; have p0 := (hSw.below.cell (p := ⟨b, o, none⟩) hb).trans HX.out.1; have p1 := (hSw.below.cell (p := ⟨b, o + 1, none⟩) hb).trans HX.out.2.1; have p2 := (hSw.below.cell (p := ⟨b, o + 2, none⟩) hb).trans HX.out.2.2; clear hSw; go_simp; first | done | with_reducible rfl)
          try simp only [Act.put, List.setIfInBounds_toArray, List.set_cons_zero, List.set_cons_succ]
          refine wpAnyH_ready (rs := [7]) (by kernel_rfl) (by simp) ?_
          refine AllReadyH.cons (o := { dst := some 55, op := Op.call { callee := Callee.value (Operand.func 21), args := #[Operand.tmp 51, Operand.tmp 54], argTypes := #[23, 3] }, type := 27, pos := "ref.go:102", after := #[{ on := 3, ground := Ground.data }, { on := 6, ground := Ground.data }], guard := none }) rfl (fun K hK => ?_) AllReadyH.nil
          go_simp
          refine (refNth_any x.1 x.2.1 x.2.2 (i / siz y.1 y.2.1 y.2.2) _ ox.1 ox.2.1 ox.2.2).mono ?_
          rintro e vv1 ⟨rfl, hq⟩
          have hq : Below v0.heap.size v0 vv1 := ⟨hq.os, hq.tape, hq.output, hq.size, hq.block⟩
          have hS := hHeld.keep hq
          go_wp2_with fail
          refine hK.out _ _ hS (fun hHeld => ?_)
          clear hK K hHeld
          clear hq
          have hHeld := hS
          clear hS
          try simp only [Act.put, List.setIfInBounds_toArray, List.set_cons_zero, List.set_cons_succ]
          refine wpAnyH_take (i := 8) (oi := { dst := some 47, op := Op.move (Operand.tmp 55), type := 27, pos := "ref.go:102", after := #[{ on := 7, ground := Ground.data }], guard := none }) (v := ?_) rfl (by kernel_rfl) (by kernel_rfl) (by kernel_rfl) (fun _ _ _ h => h) (Or.inl ⟨by rfl, ?_⟩) (by assumption) ?_
          rotate_left
          · (intro wq hSw; (try dsimp only at hSw); have d0 := hSw.d.c0; have p0 := (hSw.below.cell (p := ⟨b, o, none⟩) hb).trans HX.out.1; have p1 := (hSw.below.cell (p := ⟨b, o + 1, none⟩) hb).trans HX.out.2.1; have p2 := (hSw.below.cell (p := ⟨b, o + 2, none⟩) hb).trans HX.out.2.2; clear hSw; go_simp; first | done | with_reducible rfl)
          try simp only [Act.put, List.setIfInBounds_toArray, List.set_cons_zero, List.set_cons_succ]
          refine wpAnyH_take (i := 9) (oi := { dst := some 56, op := Op.extract (Operand.tmp 47) 0, type := 3, pos := "ref.go:102", after := #[{ on := 8, ground := Ground.data }], guard := none }) (v := ?_) rfl (by kernel_rfl) (by kernel_rfl) (by kernel_rfl) (fun _ _ _ h => h) (Or.inl ⟨by rfl, ?_⟩) (by assumption) ?_
          rotate_left
          · (intro wq hSw; (try dsimp only at hSw); have d0 := hSw.d.c0; have p0 := (hSw.below.cell (p := ⟨b, o, none⟩) hb).trans HX.out.1; have p1 := (hSw.below.cell (p := ⟨b, o + 1, none⟩) hb).trans HX.out.2.1; have p2 := (hSw.below.cell (p := ⟨b, o + 2, none⟩) hb).trans HX.out.2.2; clear hSw; go_simp; first | done | with_reducible rfl)
          try simp only [Act.put, List.setIfInBounds_toArray, List.set_cons_zero, List.set_cons_succ]
          refine wpAnyH_take (i := 10) (oi := { dst := some 57, op := Op.extract (Operand.tmp 47) 1, type := 24, pos := "ref.go:102", after := #[{ on := 8, ground := Ground.data }, { on := 11, ground := Ground.gcOnly Departure.lateStores }], guard := none }) (v := ?_) rfl (by kernel_rfl) (by kernel_rfl) (by kernel_rfl) (fun _ _ _ h => h) (Or.inl ⟨by rfl, ?_⟩) (by assumption) ?_
          rotate_left
          · (intro wq hSw; (try dsimp only at hSw); have d0 := hSw.d.c0; have p0 := (hSw.below.cell (p := ⟨b, o, none⟩) hb).trans HX.out.1; have p1 := (hSw.below.cell (p := ⟨b, o + 1, none⟩) hb).trans HX.out.2.1; have p2 := (hSw.below.cell (p := ⟨b, o + 2, none⟩) hb).trans HX.out.2.2; clear hSw; go_simp; first | done | with_reducible rfl)
          try simp only [Act.put, List.setIfInBounds_toArray, List.set_cons_zero, List.set_cons_succ]
          refine wpAnyH_take (i := 11) (oi := { dst := some 10, op := Op.assign (Operand.tmp 56), type := 3, pos := "ref.go:102", after := #[{ on := 9, ground := Ground.data }, { on := 7, ground := Ground.chain }, { on := 0, ground := Ground.phase }, { on := 1, ground := Ground.phase }, { on := 2, ground := Ground.phase }, { on := 3, ground := Ground.phase }, { on := 4, ground := Ground.phase }, { on := 5, ground := Ground.phase }, { on := 6, ground := Ground.phase }, { on := 7, ground := Ground.phase }, { on := 8, ground := Ground.phase }, { on := 9, ground := Ground.phase }, { on := 10, ground := Ground.textOnly Departure.lateStores }], guard := none }) (v := ?_) rfl (by kernel_rfl) (by kernel_rfl) (by kernel_rfl) (fun _ _ _ h => h) (Or.inl ⟨by rfl, ?_⟩) (by assumption) ?_
          rotate_left
          · (intro wq hSw; (try dsimp only at hSw); have d0 := hSw.d.c0; have p0 := (hSw.below.cell (p := ⟨b, o, none⟩) hb).trans HX.out.1; have p1 := (hSw.below.cell (p := ⟨b, o + 1, none⟩) hb).trans HX.out.2.1; have p2 := (hSw.below.cell (p := ⟨b, o + 2, none⟩) hb).trans HX.out.2.2; clear hSw; go_simp; first | done | with_reducible rfl)
          try simp only [Act.put, List.setIfInBounds_toArray, List.set_cons_zero, List.set_cons_succ]
          refine wpAnyH_take (i := 12) (oi := { dst := some 11, op := Op.assign (Operand.tmp 57), type := 24, pos := "ref.go:102", after := #[{ on := 10, ground := Ground.data }, { on := 11, ground := Ground.chain }, { on := 0, ground := Ground.phase }, { on := 1, ground := Ground.phase }, { on := 2, ground := Ground.phase }, { on := 3, ground := Ground.phase }, { on := 4, ground := Ground.phase }, { on := 5, ground := Ground.phase }, { on := 6, ground := Ground.phase }, { on := 7, ground := Ground.phase }, { on := 8, ground := Ground.phase }, { on := 9, ground := Ground.phase }, { on := 10, ground := Ground.phase }, { on := 11, ground := Ground.phase }], guard := none }) (v := ?_) rfl (by kernel_rfl) (by kernel_rfl) (by kernel_rfl) (fun _ _ _ h => h) (Or.inl ⟨by rfl, ?_⟩) (by assumption) ?_
          rotate_left
          · (intro wq hSw; (try dsimp only at hSw); have d0 := hSw.d.c0; have p0 := (hSw.below.cell (p := ⟨b, o, none⟩) hb).trans HX.out.1; have p1 := (hSw.below.cell (p := ⟨b, o + 1, none⟩) hb).trans HX.out.2.1; have p2 := (hSw.below.cell (p := ⟨b, o + 2, none⟩) hb).trans HX.out.2.2; clear hSw; go_simp; first | done | with_reducible rfl)
          try simp only [Act.put, List.setIfInBounds_toArray, List.set_cons_zero, List.set_cons_succ]
          refine wpAnyH_done (by kernel_rfl) ?_ _
          have D4 := Lib.hid hHeld
          clear hHeld
          go_upto_region 11 with fail
          refine wp_region_held_drew (S := (fun w' => DSt w (.slice (some ⟨b, o, none⟩) L.length cap) k s h w')) (by kernel_rfl) (D4.out.keep (to_drew (Below.refl _ _))) (fun hHeld => ?_)
          clear D4
          obtain ⟨u0, hu0⟩ : ∃ u0, u0 = vv1.drew := ⟨_, rfl⟩
          rw [← hu0] at hHeld ⊢
          clear hu0
          refine wpAnyH_take (i := 0) (oi := { dst := some 59, op := Op.fieldAddr 62 (Operand.tmp 2) 0, type := 0, pos := "ref.go:103", after := #[], guard := none }) (v := ?_) rfl (by kernel_rfl) (by kernel_rfl) (by kernel_rfl) (fun _ _ _ h => h) (Or.inl ⟨by rfl, ?_⟩) (by assumption) ?_
          rotate_left
          · (intro wq hSw; (try dsimp only at hSw); have d0 := hSw.d.c0; have p0 := (hSw.below.cell (p := ⟨b, o + 3, none⟩) hb).trans HY.out.1; have p1 := (hSw.below.cell (p := ⟨b, o + 3 + 1, none⟩) hb).trans HY.out.2.1; have p2 := (hSw.below.cell (p := ⟨b, o + 3 + 2, none⟩) hb).trans HY.out.2.2; clear hSw; go_simp; first | done | with_reducible rfl)
          try simp only [Act.put, List.setIfInBounds_toArray, List.set_cons_zero, List.set_cons_succ]
          refine wpAnyH_take (i := 1) (oi := { dst := some 60, op := Op.load 40 (Operand.tmp 59), type := 40, pos := "ref.go:103", after := #[{ on := 0, ground := Ground.data }], guard := none }) (v := ?_) rfl (by kernel_rfl) (by kernel_rfl) (by kernel_rfl) (fun _ _ _ h => h) (Or.inl ⟨by rfl, ?_⟩) (by assumption) ?_
          rotate_left
          · (intro wq hSw; (try dsimp only at hSw); have d0 := hSw.d.c0; have p0 := (hSw.below.cell (p := ⟨b, o + 3, none⟩) hb).trans HY.out.1; have p1 := (hSw.below.cell (p := ⟨b, o + 3 + 1, none⟩) hb).trans HY.out.2.1; have p2 := (hSw.below.cell (p := ⟨b, o + 3 + 2, none⟩) hb).trans HY.out.2.2; clear hSw; go_simp; first | done | with_reducible rfl)
          try simp only [Act.put, List.setIfInBounds_toArray, List.set_cons_zero, List.set_cons_succ]
          refine wpAnyH_take (i := 2) (oi := { dst := some 61, op := Op.indexAddr 40 (Operand.tmp 60) (Operand.const (Value.int IntKind.i64 1)), type := 0, pos := "ref.go:103", after := #[{ on := 1, ground := Ground.data }], guard := none }) (v := ?_) rfl (by kernel_rfl) (by kernel_rfl) (by kernel_rfl) (fun _ _ _ h => h) (Or.inl ⟨by rfl, ?_⟩) (by assumption) ?_
          rotate_left
          · (intro wq hSw; (try dsimp only at hSw); have d0 := hSw.d.c0; have p0 := (hSw.below.cell (p := ⟨b, o + 3, none⟩) hb).trans HY.out.1; have p1 := (hSw.below.cell (p := ⟨b, o + 3 + 1, none⟩) hb).trans HY.out.2.1; have p2 := (hSw.below.cell (p := ⟨b, o + 3 + 2, none⟩) hb).trans HY.out.2.2; clear hSw; go_simp; first | done | with_reducible rfl)
          try simp only [Act.put, List.setIfInBounds_toArray, List.set_cons_zero, List.set_cons_succ]
          refine wpAnyH_take (i := 3) (oi := { dst := some 62, op := Op.load 23 (Operand.tmp 61), type := 23, pos := "ref.go:103", after := #[{ on := 2, ground := Ground.data }], guard := none }) (v := ?_) rfl (by kernel_rfl) (by kernel_rfl) (by kernel_rfl) (fun _ _ _ h => h) (Or.inl ⟨by rfl, ?_⟩) (by assumption) ?_
          rotate_left
          · (intro wq hSw; (try dsimp only at hSw); have d0 := hSw.d.c0; have p0 := (hSw.below.cell (p := ⟨b, o + 3, none⟩) hb).trans HY.out.1; have p1 := (hSw.below.cell (p := ⟨b, o + 3 + 1, none⟩) hb).trans HY.out.2.1; have p2 := (hSw.below.cell (p := ⟨b, o + 3 + 2, none⟩) hb).trans HY.out.2.2; clear hSw; go_simp; first | done | with_reducible rfl)
          try simp only [Act.put, List.setIfInBounds_toArray, List.set_cons_zero, List.set_cons_succ]
          refine wpAnyH_take (i := 4) (oi := { dst := some 63, op := Op.move (Operand.tmp 1), type := 3, pos := "ref.go:103", after := #[], guard := none }) (v := ?_) rfl (by kernel_rfl) (by kernel_rfl) (by kernel_rfl) (fun _ _ _ h => h) (Or.inl ⟨by rfl, ?_⟩) (by assumption) ?_
          rotate_left
          · (intro wq hSw; (try dsimp only at hSw); have d0 := hSw.d.c0; have p0 := (hSw.below.cell (p := ⟨b, o + 3, none⟩) hb).trans HY.out.1; have p1 := (hSw.below.cell (p := ⟨b, o + 3 + 1, none⟩) hb).trans HY.out.2.1; have p2 := (hSw.below.cell (p := ⟨b, o + 3 + 2, none⟩) hb).trans HY.out.2.2; clear hSw; go_simp; first | done | with_reducible rfl)
          try simp only [Act.put, List.setIfInBounds_toArray, List.set_cons_zero, List.set_cons_succ]
          refine wpAnyH_take (i := 5) (oi := { dst := some 64, op := Op.move (Operand.tmp 9), type := 3, pos := "ref.go:103", after := #[], guard := none }) (v := ?_) rfl (by kernel_rfl) (by kernel_rfl) (by kernel_rfl) (fun _ _ _ h => h) (Or.inl ⟨by rfl, ?_⟩) (by assumption) ?_
          rotate_left
          · (intro wq hSw; (try dsimp only at hSw); have d0 := hSw.d.c0; have p0 := (hSw.below.cell (p := ⟨b, o + 3, none⟩) hb).trans HY.out.1; have p1 := (hSw.below.cell (p := ⟨b, o + 3 + 1, none⟩) hb).trans HY.out.2.1; have p2 := (hSw.below.cell (p := ⟨b, o + 3 + 2, none⟩) hb).trans HY.out.2.2; clear hSw; go_simp; first | done | with_reducible rfl)
          try simp only [Act.put, List.setIfInBounds_toArray, List.set_cons_zero, List.set_cons_succ]
          refine wpAnyH_take (i := 6) (oi := { dst := some 65, op := Op.binOp BinOp.rem 3 (Operand.tmp 63) (Operand.tmp 64) 3, type := 3, pos := "ref.go:103", after := #[{ on := 4, ground := Ground.data }, { on := 5, ground := Ground.data }], guard := none }) (v := ?_) rfl (by kernel_rfl) (by kernel_rfl) (by kernel_rfl) (fun _ _ _ h => h) (Or.inl ⟨by rfl, ?_⟩) (by assumption) ?_
          rotate_left
          · (intro wq hSw; (try dsimp only at hSw); have d0 := hSw.d.c0; have p0 := (hSw.below.cell (p := ⟨b, o + 3, none⟩) hb).trans HY.out.1; have p1 := (hSw.below.cell (p := ⟨b, o + 3 + 1, none⟩) hb).trans HY.out.2.1; have p2 := (hSw.below.cell (p := ⟨b, o + 3 + 2, none⟩) hb).trans HY.out.2.2; clear hSw; go_simp; first | done | with_reducible rfl)
          try simp only [Act.put, List.setIfInBounds_toArray, List.set_cons_zero, List.set_cons_succ]
          refine wpAnyH_ready (rs := [7]) (by kernel_rfl) (by simp) ?_
          refine AllReadyH.cons (o := { dst := some 66, op := Op.call { callee := Callee.value (Operand.func 21), args := #[Operand.tmp 62, Operand.tmp 65], argTypes := #[23, 3] }, type := 27, pos := "ref.go:103", after := #[{ on := 3, ground := Ground.data }, { on := 6, ground := Ground.data }], guard := none }) rfl (fun K hK => ?_) AllReadyH.nil
          go_simp
          refine (refNth_any y.1 y.2.1 y.2.2 (i % siz y.1 y.2.1 y.2.2) _ oy.1 oy.2.1 oy.2.2).mono ?_
          rintro e uv1 ⟨rfl, hq⟩
          have hq : Below u0.heap.size u0 uv1 := ⟨hq.os, hq.tape, hq.output, hq.size, hq.block⟩
          have hS := hHeld.keep hq
          go_wp2_with fail
          refine hK.out _ _ hS (fun hHeld => ?_)
          clear hK K hHeld
          clear hq
          have hHeld := hS
          clear hS
          try simp only [Act.put, List.setIfInBounds_toArray, List.set_cons_zero, List.set_cons_succ]
          refine wpAnyH_take (i := 8) (oi := { dst := some 58, op := Op.move (Operand.tmp 66), type := 27, pos := "ref.go:103", after := #[{ on := 7, ground := Ground.data }], guard := none }) (v := ?_) rfl (by kernel_rfl) (by kernel_rfl) (by kernel_rfl) (fun _ _ _ h => h) (Or.inl ⟨by rfl, ?_⟩) (by assumption) ?_
          rotate_left
          · (intro wq hSw; (try dsimp only at hSw); have d0 := hSw.d.c0; have p0 := (hSw.below.cell (p := ⟨b, o + 3, none⟩) hb).trans HY.out.1; have p1 := (hSw.below.cell (p := ⟨b, o + 3 + 1, none⟩) hb).trans HY.out.2.1; have p2 := (hSw.below.cell (p := ⟨b, o + 3 + 2, none⟩) hb).trans HY.out.2.2; clear hSw; go_simp; first | done | with_reducible rfl)
          try simp only [Act.put, List.setIfInBounds_toArray, List.set_cons_zero, List.set_cons_succ]
          refine wpAnyH_take (i := 9) (oi := { dst := some 67, op := Op.extract (Operand.tmp 58) 0, type := 3, pos := "ref.go:103", after := #[{ on := 8, ground := Ground.data }], guard := none }) (v := ?_) rfl (by kernel_rfl) (by kernel_rfl) (by kernel_rfl) (fun _ _ _ h => h) (Or.inl ⟨by rfl, ?_⟩) (by assumption) ?_
          rotate_left
          · (intro wq hSw; (try dsimp only at hSw); have d0 := hSw.d.c0; have p0 := (hSw.below.cell (p := ⟨b, o + 3, none⟩) hb).trans HY.out.1; have p1 := (hSw.below.cell (p := ⟨b, o + 3 + 1, none⟩) hb).trans HY.out.2.1; have p2 := (hSw.below.cell (p := ⟨b, o + 3 + 2, none⟩) hb).trans HY.out.2.2; clear hSw; go_simp; first | done | with_reducible rfl)
          try simp only [Act.put, List.setIfInBounds_toArray, List.set_cons_zero, List.set_cons_succ]
          refine wpAnyH_take (i := 10) (oi := { dst := some 68, op := Op.extract (Operand.tmp 58) 1, type := 24, pos := "ref.go:103", after := #[{ on := 8, ground := Ground.data }, { on := 11, ground := Ground.gcOnly Departure.lateStores }], guard := none }) (v := ?_) rfl (by kernel_rfl) (by kernel_rfl) (by kernel_rfl) (fun _ _ _ h => h) (Or.inl ⟨by rfl, ?_⟩) (by assumption) ?_
          rotate_left
          · (intro wq hSw; (try dsimp only at hSw); have d0 := hSw.d.c0; have p0 := (hSw.below.cell (p := ⟨b, o + 3, none⟩) hb).trans HY.out.1; have p1 := (hSw.below.cell (p := ⟨b, o + 3 + 1, none⟩) hb).trans HY.out.2.1; have p2 := (hSw.below.cell (p := ⟨b, o + 3 + 2, none⟩) hb).trans HY.out.2.2; clear hSw; go_simp; first | done | with_reducible rfl)
          try simp only [Act.put, List.setIfInBounds_toArray, List.set_cons_zero, List.set_cons_succ]
          refine wpAnyH_take (i := 11) (oi := { dst := some 12, op := Op.assign (Operand.tmp 67), type := 3, pos := "ref.go:103", after := #[{ on := 9, ground := Ground.data }, { on := 7, ground := Ground.chain }, { on := 0, ground := Ground.phase }, { on := 1, ground := Ground.phase }, { on := 2, ground := Ground.phase }, { on := 3, ground := Ground.phase }, { on := 4, ground := Ground.phase }, { on := 5, ground := Ground.phase }, { on := 6, ground := Ground.phase }, { on := 7, ground := Ground.phase }, { on := 8, ground := Ground.phase }, { on := 9, ground := Ground.phase }, { on := 10, ground := Ground.textOnly Departure.lateStores }], guard := none }) (v := ?_) rfl (by kernel_rfl) (by kernel_rfl) (by kernel_rfl) (fun _ _ _ h => h) (Or.inl ⟨by rfl, ?_⟩) (by assumption) ?_
          rotate_left
          · (intro wq hSw; (try dsimp only at hSw); have d0 := hSw.d.c0; have p0 := (hSw.below.cell (p := ⟨b, o + 3, none⟩) hb).trans HY.out.1; have p1 := (hSw.below.cell (p := ⟨b, o + 3 + 1, none⟩) hb).trans HY.out.2.1; have p2 := (hSw.below.cell (p := ⟨b, o + 3 + 2, none⟩) hb).trans HY.out.2.2; clear hSw; go_simp; first | done | with_reducible rfl)
          try simp only [Act.put, List.setIfInBounds_toArray, List.set_cons_zero, List.set_cons_succ]
          refine wpAnyH_take (i := 12) (oi := { dst := some 13, op := Op.assign (Operand.tmp 68), type := 24, pos := "ref.go:103", after := #[{ on := 10, ground := Ground.data }, { on := 11, ground := Ground.chain }, { on := 0, ground := Ground.phase }, { on := 1, ground := Ground.phase }, { on := 2, ground := Ground.phase }, { on := 3, ground := Ground.phase }, { on := 4, ground := Ground.phase }, { on := 5, ground := Ground.phase }, { on := 6, ground := Ground.phase }, { on := 7, ground := Ground.phase }, { on := 8, ground := Ground.phase }, { on := 9, ground := Ground.phase }, { on := 10, ground := Ground.phase }, { on := 11, ground := Ground.phase }], guard := none }) (v := ?_) rfl (by kernel_rfl) (by kernel_rfl) (by kernel_rfl) (fun _ _ _ h => h) (Or.inl ⟨by rfl, ?_⟩) (by assumption) ?_
          rotate_left
          · (intro wq hSw; (try dsimp only at hSw); have d0 := hSw.d.c0; have p0 := (hSw.below.cell (p := ⟨b, o + 3, none⟩) hb).trans HY.out.1; have p1 := (hSw.below.cell (p := ⟨b, o + 3 + 1, none⟩) hb).trans HY.out.2.1; have p2 := (hSw.below.cell (p := ⟨b, o + 3 + 2, none⟩) hb).trans HY.out.2.2; clear hSw; go_simp; first | done | with_reducible rfl)
          try simp only [Act.put, List.setIfInBounds_toArray, List.set_cons_zero, List.set_cons_succ]
          refine wpAnyH_done (by kernel_rfl) ?_ _
          have D6 := Lib.hid hHeld
          clear hHeld
          go_wp2
          refine bodyPost_ret (v := .tuple #[.slice (some ⟨uv1.heap.size, 0, none⟩) 2 2, .int .i64 0]) (by simp [results, Try.results63, go_sem, *]) rfl ⟨_, _, rfl, D6.out.below.trans ((below_new _ _).mono D6.out.below.size), Lib.hid ⟨E.out.symm, Or.inl ⟨rfl, ?_⟩⟩⟩
          rw [IX.out]
          exact World.ownsRow_lit uv1 #[.int .i64 (nthN x.1 x.2.1 x.2.2 (i / siz y.1 y.2.1 y.2.2)), .int .i64 (nthN y.1 y.2.1 y.2.2 (i % siz y.1 y.2.1 y.2.2))] 2 D6.out.below.size (by unfold maxLen; omega) (by simp)
  · have E : Hid (dnthE L k s h i = dchk L k s h) := Lib.hid (by unfold dnthE; rw [if_neg c])
    have c' : (dchk L k s h != 0) = true := by simp [c]
    have C := Lib.hid c
    clear c
    go_wp2
    exact bodyPost_ret (v := .tuple #[.slice none 0 0, .int .i64 (dchk L k s h)]) (by simp [results, Try.results63, go_sem, *]) rfl ⟨_, _, rfl, D1.out.below, Lib.hid ⟨E.out.symm, Or.inr ⟨C.out, rfl⟩⟩⟩
end Go.Proofs.Ytabgphlpdoockaa
