/-
  Part 18: DCA.
-/
import Derived.Test.YtabgphlpdoockaaDr4
import Derived.Test.YtabgphlpdoockaaDr9
import Derived.Test.YtabgphlpdoockaaDr11
import Derived.Test.YtabgphlpdoockaaDr14
import Derived.Test.YtabgphlpdoockaaDr17
import Derived.BigQuiet
import Derived.Deep.CutBlock
import Derived.Deep.DeepCutAuto
import Derived.Deep.DrawnRows
import Derived.Deep.LoopGhost
import Derived.Deep.QuietTactic
import Derived.Deep.RegionHeld3
import Derived.Deep.RegionWith
import Derived.Lib.Hide
import Derived.WalkKit
import Derived.WalkLawsBesides
import Derived.WalkSpells
namespace Go.Proofs.Ytabgphlpdoockaa
open Go.RowKit
/-- what a function of span gives for a range and a number -/
abbrev Mv := R3 → Int → R3 × Int
def MvOk (f : FuncId) (g : Mv) : Prop := ∀ (x : R3) (n : Int), I64 x.1 → I64 x.2.1 → I64 x.2.2 → I64 n → Ret4 f x.1 x.2.1 x.2.2 n (g x n).1.1 (g x n).1.2.1 (g x n).1.2.2 (g x n).2
/-- .. but a range stays for the number 0 -/
def uz (g : Mv) : Mv := fun x n => if n = 0 then (x, 0) else g x n
/-- what is done in a dimension -/
def RMv (g : Mv) (L : List R3) (ns : List Int) (i : Nat) (x : R3) (er : Int) : Prop := ∃ (y : R3) (n : Int), L[i]? = some y ∧ ns[i]? = some n ∧ x = (g y n).1 ∧ er = (g y n).2
/-- ints and ranges lie as lists -/
def At1 (w : World) (b o : Nat) (L : List Int) : Prop := ∀ (j : Nat) (x : Int), L[j]? = some x → w.cell? ⟨b, o + j, none⟩ = some (.int .i64 x)
def GivesMv (mv : Value) (L : List R3) (ns : List Int) (R : Nat → R3 → Int → Prop) (w0 : World) : Prop :=
  ∀ (c0 c1 c2 b o cap bi oi ci i : Nat) (w : World), Below w0.heap.size w0 w → w.cell? ⟨c0, 0, none⟩ = some mv → w.cell? ⟨c1, 0, none⟩ = some (.slice (some ⟨b, o, none⟩) L.length cap) → w.cell? ⟨c2, 0, none⟩ = some (.slice (some ⟨bi, oi, none⟩) ns.length ci) →
    b < w.heap.size → bi < w.heap.size → At3 w b o L → At1 w bi oi ns → i < L.length → ns.length = L.length → L.length ≤ 2 →
    Calls Try.prog 175 #[.int .i64 i, .pointer (some ⟨c0, 0, none⟩), .pointer (some ⟨c1, 0, none⟩), .pointer (some ⟨c2, 0, none⟩)] w fun e w' => ∃ (x0 x1 x2 er : Int), e = .returned (.tuple #[.agg #[.int .i64 x0, .int .i64 x1, .int .i64 x2], .int .i64 er]) ∧ Below w.heap.size w w' ∧ Hid (R i (x0, x1, x2) er)
set_option maxRecDepth 100000 in
set_option maxHeartbeats 3200000 in
theorem ulInterior (g : Mv) (hg : Hid (MvOk 39 g)) (x : R3) (n : Int) (c3 : Nat) (w : World) (hc : w.cell? ⟨c3, 0, none⟩ = some (.func (.func 39) #[] #[])) (h0 : I64 x.1) (h1 : I64 x.2.1) (h2 : I64 x.2.2) (hn : I64 n) :
    Calls Try.prog 176 #[.agg #[.int .i64 x.1, .int .i64 x.2.1, .int .i64 x.2.2], .int .i64 n, .pointer (some ⟨c3, 0, none⟩)] w fun e w' => e = .returned (.tuple #[.agg #[.int .i64 (uz g x n).1.1, .int .i64 (uz g x n).1.2.1, .int .i64 (uz g x n).1.2.2], .int .i64 (uz g x n).2]) ∧ Below w.heap.size w w' := by
  by_cases n0 : n = 0
  · subst n0
    have E : Hid (uz g x 0 = (x, 0)) := Lib.hid (by unfold uz; rw [if_pos rfl])
    clear hc
    go_enter Try.func176, Try.ntmps176
    go_wp2
    rw [E.out]
    refine bodyPost_ret (v := .tuple #[.agg #[.int .i64 x.1, .int .i64 x.2.1, .int .i64 x.2.2], .int .i64 0]) (by simp [results, Try.results176, go_sem, *]) rfl ⟨rfl, ?_⟩
    repeat (first | exact Below.refl _ _ | refine Below.alloc ?_ (by simp; try omega) _ | refine Below.setCell ?_ (by simp; try omega) _)
  · have n0' : (n == 0) = false := by simp [n0]
    have E : Hid (uz g x n = g x n) := Lib.hid (by unfold uz; rw [if_neg n0])
    have zc : c3 < w.heap.size := World.block_lt_of_cell? w _ hc
    have n1 := below_new w (.cells #[.int .i64 x.1, .int .i64 x.2.1, .int .i64 x.2.2] 23)
    have n2 := below_new (w.alloc (.cells #[.int .i64 x.1, .int .i64 x.2.1, .int .i64 x.2.2] 23)) (.cells #[.int .i64 0, .int .i64 0, .int .i64 0] 23)
    have b0 := B3.new (.int .i64 0) (.int .i64 0) (.int .i64 0) 23 (w.alloc (.cells #[.int .i64 x.1, .int .i64 x.2.1, .int .i64 x.2.2] 23))
    have z1 : (w.alloc (.cells #[.int .i64 x.1, .int .i64 x.2.1, .int .i64 x.2.2] 23)).heap.size = w.heap.size + 1 := by simp
    rw [z1] at b0
    have N0 := Lib.hid (n1.trans (n2.mono (by omega)))
    have B0 := Lib.hid b0
    have x3 := (N0.out.cell (p := ⟨c3, 0, none⟩) zc).trans hc
    clear n0 n1 n2 b0 z1 hc
    go_enter Try.func176, Try.ntmps176
    go_wp2_with fail
    refine (hg.out x n h0 h1 h2 hn _).mono ?_
    rintro e w1 ⟨rfl, hb⟩
    have N1 := Lib.hid (N0.out.trans (hb.mono N0.out.size))
    have B1 := Lib.hid (B0.out.keep hb)
    clear hb N0 B0 x3
    have d0 := B1.out.c0
    have d1 := B1.out.c1
    have d2 := B1.out.c2
    have f0 := B1.out.f0
    have f1 := B1.out.f1
    have f2 := B1.out.f2
    go_wp2
    rw [E.out]
    refine bodyPost_ret (v := .tuple #[.agg #[.int .i64 (g x n).1.1, .int .i64 (g x n).1.2.1, .int .i64 (g x n).1.2.2], .int .i64 (g x n).2]) (by simp [results, Try.results176, go_sem, *]) rfl ⟨rfl, ?_⟩
    repeat (first | exact N1.out | refine Below.setCell ?_ (by simp; try omega) _)
set_option maxRecDepth 100000 in
set_option maxHeartbeats 3200000 in
theorem ulExterior (g : Mv) (hg : Hid (MvOk 41 g)) (x : R3) (n : Int) (c3 : Nat) (w : World) (hc : w.cell? ⟨c3, 0, none⟩ = some (.func (.func 41) #[] #[])) (h0 : I64 x.1) (h1 : I64 x.2.1) (h2 : I64 x.2.2) (hn : I64 n) :
    Calls Try.prog 176 #[.agg #[.int .i64 x.1, .int .i64 x.2.1, .int .i64 x.2.2], .int .i64 n, .pointer (some ⟨c3, 0, none⟩)] w fun e w' => e = .returned (.tuple #[.agg #[.int .i64 (uz g x n).1.1, .int .i64 (uz g x n).1.2.1, .int .i64 (uz g x n).1.2.2], .int .i64 (uz g x n).2]) ∧ Below w.heap.size w w' := by
  by_cases n0 : n = 0
  · subst n0
    have E : Hid (uz g x 0 = (x, 0)) := Lib.hid (by unfold uz; rw [if_pos rfl])
    clear hc
    go_enter Try.func176, Try.ntmps176
    go_wp2
    rw [E.out]
    refine bodyPost_ret (v := .tuple #[.agg #[.int .i64 x.1, .int .i64 x.2.1, .int .i64 x.2.2], .int .i64 0]) (by simp [results, Try.results176, go_sem, *]) rfl ⟨rfl, ?_⟩
    repeat (first | exact Below.refl _ _ | refine Below.alloc ?_ (by simp; try omega) _ | refine Below.setCell ?_ (by simp; try omega) _)
  · have n0' : (n == 0) = false := by simp [n0]
    have E : Hid (uz g x n = g x n) := Lib.hid (by unfold uz; rw [if_neg n0])
    have zc : c3 < w.heap.size := World.block_lt_of_cell? w _ hc
    have n1 := below_new w (.cells #[.int .i64 x.1, .int .i64 x.2.1, .int .i64 x.2.2] 23)
    have n2 := below_new (w.alloc (.cells #[.int .i64 x.1, .int .i64 x.2.1, .int .i64 x.2.2] 23)) (.cells #[.int .i64 0, .int .i64 0, .int .i64 0] 23)
    have b0 := B3.new (.int .i64 0) (.int .i64 0) (.int .i64 0) 23 (w.alloc (.cells #[.int .i64 x.1, .int .i64 x.2.1, .int .i64 x.2.2] 23))
    have z1 : (w.alloc (.cells #[.int .i64 x.1, .int .i64 x.2.1, .int .i64 x.2.2] 23)).heap.size = w.heap.size + 1 := by simp
    rw [z1] at b0
    have N0 := Lib.hid (n1.trans (n2.mono (by omega)))
    have B0 := Lib.hid b0
    have x3 := (N0.out.cell (p := ⟨c3, 0, none⟩) zc).trans hc
    clear n0 n1 n2 b0 z1 hc
    go_enter Try.func176, Try.ntmps176
    go_wp2_with fail
    refine (hg.out x n h0 h1 h2 hn _).mono ?_
    rintro e w1 ⟨rfl, hb⟩
    have N1 := Lib.hid (N0.out.trans (hb.mono N0.out.size))
    have B1 := Lib.hid (B0.out.keep hb)
    clear hb N0 B0 x3
    have d0 := B1.out.c0
    have d1 := B1.out.c1
    have d2 := B1.out.c2
    have f0 := B1.out.f0
    have f1 := B1.out.f1
    have f2 := B1.out.f2
    go_wp2
    rw [E.out]
    refine bodyPost_ret (v := .tuple #[.agg #[.int .i64 (g x n).1.1, .int .i64 (g x n).1.2.1, .int .i64 (g x n).1.2.2], .int .i64 (g x n).2]) (by simp [results, Try.results176, go_sem, *]) rfl ⟨rfl, ?_⟩
    repeat (first | exact N1.out | refine Below.setCell ?_ (by simp; try omega) _)
set_option maxRecDepth 100000 in
set_option maxHeartbeats 3200000 in
theorem giveTranslate (g : Mv) (hg : Hid (MvOk 35 g)) (L : List R3) (ns : List Int) (w0 : World) (hL : Ok3 L) (hN : Ok1 ns) : GivesMv (.func (.func 35) #[] #[]) L ns (RMv g L ns) w0 := by
  intro c0 c1 c2 b o cap bi oi ci i w hw p0 p1 p2 zb zbi at3 at1 hi ln hn
  obtain ⟨x, hx⟩ : ∃ x, L[i]? = some x := ⟨L[i], List.getElem?_eq_getElem hi⟩
  obtain ⟨n, hn'⟩ : ∃ n, ns[i]? = some n := ⟨ns[i]'(by omega), List.getElem?_eq_getElem _⟩
  have ox := hL x (List.mem_of_getElem? hx)
  have on := hN n (List.mem_of_getElem? hn')
  have PX := Lib.hid (at3 i x hx)
  have PN := Lib.hid (at1 i n hn')
  have P0 := Lib.hid p0
  have P1 := Lib.hid p1
  have P2 := Lib.hid p2
  have FX := Lib.hid hx
  have FN := Lib.hid hn'
  have zc0 : c0 < w.heap.size := World.block_lt_of_cell? w _ p0
  have zc1 : c1 < w.heap.size := World.block_lt_of_cell? w _ p1
  have zc2 : c2 < w.heap.size := World.block_lt_of_cell? w _ p2
  have hi2 : i < ns.length := by omega
  have li : (L.length : Int) ≤ 2 := by omega
  have ni : (ns.length : Int) ≤ 2 := by omega
  clear hx hn' at3 at1 p0 p1 p2 hL hN ln
  have W1 : Below w.heap.size w (w.alloc (.cells #[.int .i64 0, .int .i64 0, .int .i64 0] 23)) := below_new _ _
  have BC := B3.new (.int .i64 0) (.int .i64 0) (.int .i64 0) 23 w
  go_enter Try.func175, Try.ntmps175
  go_upto_region 1 with fail
  generalize w.alloc (.cells #[.int .i64 0, .int .i64 0, .int .i64 0] 23) = w1 at *
  refine wp_region_held_drew (S := (fun w' => Below w.heap.size w w')) (by kernel_rfl) (to_drew W1) (fun hHeld => ?_)
  have BC := BC.keep (to_drew (Below.refl _ _))
  clear W1
  obtain ⟨v0, hv0⟩ : ∃ v0, v0 = w1.drew := ⟨_, rfl⟩
  rw [← hv0] at hHeld BC ⊢
  clear hv0
  refine wpAnyH_take (i := 0) (oi := { dst := some 7, op := Op.load 36 (Operand.tmp 1), type := 36, pos := "sets.go:48", after := #[], guard := none }) (v := ?_) rfl (by kernel_rfl) (by kernel_rfl) (by kernel_rfl) (fun _ _ _ h => h) (Or.inl ⟨by rfl, ?_⟩) (by assumption) ?_
  rotate_left
  · (intro wq hSw; (try dsimp only at hSw); have p0 := (hSw.cell (p := ⟨c0, 0, none⟩) zc0).trans P0.out; have p1 := (hSw.cell (p := ⟨c1, 0, none⟩) zc1).trans P1.out; have p2 := (hSw.cell (p := ⟨c2, 0, none⟩) zc2).trans P2.out; have q0 := (hSw.cell (p := ⟨b, o + i * 3, none⟩) zb).trans PX.out.1; have q1 := (hSw.cell (p := ⟨b, o + i * 3 + 1, none⟩) zb).trans PX.out.2.1; have q2 := (hSw.cell (p := ⟨b, o + i * 3 + 2, none⟩) zb).trans PX.out.2.2; have r0 := (hSw.cell (p := ⟨bi, oi + i, none⟩) zbi).trans PN.out; clear hSw; go_simp; first | done | with_reducible rfl)
  try simp only [Act.put, List.setIfInBounds_toArray, List.set_cons_zero, List.set_cons_succ]
  refine wpAnyH_take (i := 1) (oi := { dst := some 8, op := Op.fieldAddr 62 (Operand.tmp 2) 0, type := 0, pos := "sets.go:48", after := #[], guard := none }) (v := ?_) rfl (by kernel_rfl) (by kernel_rfl) (by kernel_rfl) (fun _ _ _ h => h) (Or.inl ⟨by rfl, ?_⟩) (by assumption) ?_
  rotate_left
  · (intro wq hSw; (try dsimp only at hSw); have p0 := (hSw.cell (p := ⟨c0, 0, none⟩) zc0).trans P0.out; have p1 := (hSw.cell (p := ⟨c1, 0, none⟩) zc1).trans P1.out; have p2 := (hSw.cell (p := ⟨c2, 0, none⟩) zc2).trans P2.out; have q0 := (hSw.cell (p := ⟨b, o + i * 3, none⟩) zb).trans PX.out.1; have q1 := (hSw.cell (p := ⟨b, o + i * 3 + 1, none⟩) zb).trans PX.out.2.1; have q2 := (hSw.cell (p := ⟨b, o + i * 3 + 2, none⟩) zb).trans PX.out.2.2; have r0 := (hSw.cell (p := ⟨bi, oi + i, none⟩) zbi).trans PN.out; clear hSw; go_simp; first | done | with_reducible rfl)
  try simp only [Act.put, List.setIfInBounds_toArray, List.set_cons_zero, List.set_cons_succ]
  refine wpAnyH_take (i := 2) (oi := { dst := some 9, op := Op.load 40 (Operand.tmp 8), type := 40, pos := "sets.go:48", after := #[{ on := 1, ground := Ground.data }], guard := none }) (v := ?_) rfl (by kernel_rfl) (by kernel_rfl) (by kernel_rfl) (fun _ _ _ h => h) (Or.inl ⟨by rfl, ?_⟩) (by assumption) ?_
  rotate_left
  · (intro wq hSw; (try dsimp only at hSw); have p0 := (hSw.cell (p := ⟨c0, 0, none⟩) zc0).trans P0.out; have p1 := (hSw.cell (p := ⟨c1, 0, none⟩) zc1).trans P1.out; have p2 := (hSw.cell (p := ⟨c2, 0, none⟩) zc2).trans P2.out; have q0 := (hSw.cell (p := ⟨b, o + i * 3, none⟩) zb).trans PX.out.1; have q1 := (hSw.cell (p := ⟨b, o + i * 3 + 1, none⟩) zb).trans PX.out.2.1; have q2 := (hSw.cell (p := ⟨b, o + i * 3 + 2, none⟩) zb).trans PX.out.2.2; have r0 := (hSw.cell (p := ⟨bi, oi + i, none⟩) zbi).trans PN.out; clear hSw; go_simp; first | done | with_reducible rfl)
  try simp only [Act.put, List.setIfInBounds_toArray, List.set_cons_zero, List.set_cons_succ]
  refine wpAnyH_take (i := 3) (oi := { dst := some 10, op := Op.move (Operand.tmp 0), type := 3, pos := "sets.go:48", after := #[], guard := none }) (v := ?_) rfl (by kernel_rfl) (by kernel_rfl) (by kernel_rfl) (fun _ _ _ h => h) (Or.inl ⟨by rfl, ?_⟩) (by assumption) ?_
  rotate_left
  · (intro wq hSw; (try dsimp only at hSw); have p0 := (hSw.cell (p := ⟨c0, 0, none⟩) zc0).trans P0.out; have p1 := (hSw.cell (p := ⟨c1, 0, none⟩) zc1).trans P1.out; have p2 := (hSw.cell (p := ⟨c2, 0, none⟩) zc2).trans P2.out; have q0 := (hSw.cell (p := ⟨b, o + i * 3, none⟩) zb).trans PX.out.1; have q1 := (hSw.cell (p := ⟨b, o + i * 3 + 1, none⟩) zb).trans PX.out.2.1; have q2 := (hSw.cell (p := ⟨b, o + i * 3 + 2, none⟩) zb).trans PX.out.2.2; have r0 := (hSw.cell (p := ⟨bi, oi + i, none⟩) zbi).trans PN.out; clear hSw; go_simp; first | done | with_reducible rfl)
  try simp only [Act.put, List.setIfInBounds_toArray, List.set_cons_zero, List.set_cons_succ]
  refine wpAnyH_take (i := 4) (oi := { dst := some 11, op := Op.indexAddr 40 (Operand.tmp 9) (Operand.tmp 10), type := 0, pos := "sets.go:48", after := #[{ on := 2, ground := Ground.data }, { on := 3, ground := Ground.data }], guard := none }) (v := ?_) rfl (by kernel_rfl) (by kernel_rfl) (by kernel_rfl) (fun _ _ _ h => h) (Or.inl ⟨by rfl, ?_⟩) (by assumption) ?_
  rotate_left
  · (intro wq hSw; (try dsimp only at hSw); have p0 := (hSw.cell (p := ⟨c0, 0, none⟩) zc0).trans P0.out; have p1 := (hSw.cell (p := ⟨c1, 0, none⟩) zc1).trans P1.out; have p2 := (hSw.cell (p := ⟨c2, 0, none⟩) zc2).trans P2.out; have q0 := (hSw.cell (p := ⟨b, o + i * 3, none⟩) zb).trans PX.out.1; have q1 := (hSw.cell (p := ⟨b, o + i * 3 + 1, none⟩) zb).trans PX.out.2.1; have q2 := (hSw.cell (p := ⟨b, o + i * 3 + 2, none⟩) zb).trans PX.out.2.2; have r0 := (hSw.cell (p := ⟨bi, oi + i, none⟩) zbi).trans PN.out; clear hSw; go_simp; first | done | with_reducible rfl)
  try simp only [Act.put, List.setIfInBounds_toArray, List.set_cons_zero, List.set_cons_succ]
  refine wpAnyH_take (i := 5) (oi := { dst := some 12, op := Op.load 23 (Operand.tmp 11), type := 23, pos := "sets.go:48", after := #[{ on := 4, ground := Ground.data }], guard := none }) (v := ?_) rfl (by kernel_rfl) (by kernel_rfl) (by kernel_rfl) (fun _ _ _ h => h) (Or.inl ⟨by rfl, ?_⟩) (by assumption) ?_
  rotate_left
  · (intro wq hSw; (try dsimp only at hSw); have p0 := (hSw.cell (p := ⟨c0, 0, none⟩) zc0).trans P0.out; have p1 := (hSw.cell (p := ⟨c1, 0, none⟩) zc1).trans P1.out; have p2 := (hSw.cell (p := ⟨c2, 0, none⟩) zc2).trans P2.out; have q0 := (hSw.cell (p := ⟨b, o + i * 3, none⟩) zb).trans PX.out.1; have q1 := (hSw.cell (p := ⟨b, o + i * 3 + 1, none⟩) zb).trans PX.out.2.1; have q2 := (hSw.cell (p := ⟨b, o + i * 3 + 2, none⟩) zb).trans PX.out.2.2; have r0 := (hSw.cell (p := ⟨bi, oi + i, none⟩) zbi).trans PN.out; clear hSw; go_simp; first | done | with_reducible rfl)
  try simp only [Act.put, List.setIfInBounds_toArray, List.set_cons_zero, List.set_cons_succ]
  refine wpAnyH_take (i := 6) (oi := { dst := some 13, op := Op.load 48 (Operand.tmp 3), type := 48, pos := "sets.go:48", after := #[], guard := none }) (v := ?_) rfl (by kernel_rfl) (by kernel_rfl) (by kernel_rfl) (fun _ _ _ h => h) (Or.inl ⟨by rfl, ?_⟩) (by assumption) ?_
  rotate_left
  · (intro wq hSw; (try dsimp only at hSw); have p0 := (hSw.cell (p := ⟨c0, 0, none⟩) zc0).trans P0.out; have p1 := (hSw.cell (p := ⟨c1, 0, none⟩) zc1).trans P1.out; have p2 := (hSw.cell (p := ⟨c2, 0, none⟩) zc2).trans P2.out; have q0 := (hSw.cell (p := ⟨b, o + i * 3, none⟩) zb).trans PX.out.1; have q1 := (hSw.cell (p := ⟨b, o + i * 3 + 1, none⟩) zb).trans PX.out.2.1; have q2 := (hSw.cell (p := ⟨b, o + i * 3 + 2, none⟩) zb).trans PX.out.2.2; have r0 := (hSw.cell (p := ⟨bi, oi + i, none⟩) zbi).trans PN.out; clear hSw; go_simp; first | done | with_reducible rfl)
  try simp only [Act.put, List.setIfInBounds_toArray, List.set_cons_zero, List.set_cons_succ]
  refine wpAnyH_take (i := 7) (oi := { dst := some 14, op := Op.move (Operand.tmp 0), type := 3, pos := "sets.go:48", after := #[], guard := none }) (v := ?_) rfl (by kernel_rfl) (by kernel_rfl) (by kernel_rfl) (fun _ _ _ h => h) (Or.inl ⟨by rfl, ?_⟩) (by assumption) ?_
  rotate_left
  · (intro wq hSw; (try dsimp only at hSw); have p0 := (hSw.cell (p := ⟨c0, 0, none⟩) zc0).trans P0.out; have p1 := (hSw.cell (p := ⟨c1, 0, none⟩) zc1).trans P1.out; have p2 := (hSw.cell (p := ⟨c2, 0, none⟩) zc2).trans P2.out; have q0 := (hSw.cell (p := ⟨b, o + i * 3, none⟩) zb).trans PX.out.1; have q1 := (hSw.cell (p := ⟨b, o + i * 3 + 1, none⟩) zb).trans PX.out.2.1; have q2 := (hSw.cell (p := ⟨b, o + i * 3 + 2, none⟩) zb).trans PX.out.2.2; have r0 := (hSw.cell (p := ⟨bi, oi + i, none⟩) zbi).trans PN.out; clear hSw; go_simp; first | done | with_reducible rfl)
  try simp only [Act.put, List.setIfInBounds_toArray, List.set_cons_zero, List.set_cons_succ]
  refine wpAnyH_take (i := 8) (oi := { dst := some 15, op := Op.indexAddr 48 (Operand.tmp 13) (Operand.tmp 14), type := 0, pos := "sets.go:48", after := #[{ on := 6, ground := Ground.data }, { on := 7, ground := Ground.data }], guard := none }) (v := ?_) rfl (by kernel_rfl) (by kernel_rfl) (by kernel_rfl) (fun _ _ _ h => h) (Or.inl ⟨by rfl, ?_⟩) (by assumption) ?_
  rotate_left
  · (intro wq hSw; (try dsimp only at hSw); have p0 := (hSw.cell (p := ⟨c0, 0, none⟩) zc0).trans P0.out; have p1 := (hSw.cell (p := ⟨c1, 0, none⟩) zc1).trans P1.out; have p2 := (hSw.cell (p := ⟨c2, 0, none⟩) zc2).trans P2.out; have q0 := (hSw.cell (p := ⟨b, o + i * 3, none⟩) zb).trans PX.out.1; have q1 := (hSw.cell (p := ⟨b, o + i * 3 + 1, none⟩) zb).trans PX.out.2.1; have q2 := (hSw.cell (p := ⟨b, o + i * 3 + 2, none⟩) zb).trans PX.out.2.2; have r0 := (hSw.cell (p := ⟨bi, oi + i, none⟩) zbi).trans PN.out; clear hSw; go_simp; first | done | with_reducible rfl)
  try simp only [Act.put, List.setIfInBounds_toArray, List.set_cons_zero, List.set_cons_succ]
  refine wpAnyH_take (i := 9) (oi := { dst := some 16, op := Op.load 3 (Operand.tmp 15), type := 3, pos := "sets.go:48", after := #[{ on := 8, ground := Ground.data }], guard := none }) (v := ?_) rfl (by kernel_rfl) (by kernel_rfl) (by kernel_rfl) (fun _ _ _ h => h) (Or.inl ⟨by rfl, ?_⟩) (by assumption) ?_
  rotate_left
  · (intro wq hSw; (try dsimp only at hSw); have p0 := (hSw.cell (p := ⟨c0, 0, none⟩) zc0).trans P0.out; have p1 := (hSw.cell (p := ⟨c1, 0, none⟩) zc1).trans P1.out; have p2 := (hSw.cell (p := ⟨c2, 0, none⟩) zc2).trans P2.out; have q0 := (hSw.cell (p := ⟨b, o + i * 3, none⟩) zb).trans PX.out.1; have q1 := (hSw.cell (p := ⟨b, o + i * 3 + 1, none⟩) zb).trans PX.out.2.1; have q2 := (hSw.cell (p := ⟨b, o + i * 3 + 2, none⟩) zb).trans PX.out.2.2; have r0 := (hSw.cell (p := ⟨bi, oi + i, none⟩) zbi).trans PN.out; clear hSw; go_simp; first | done | with_reducible rfl)
  try simp only [Act.put, List.setIfInBounds_toArray, List.set_cons_zero, List.set_cons_succ]
  refine wpAnyH_ready (rs := [10]) (by kernel_rfl) (by simp) ?_
  refine AllReadyH.cons (o := { dst := some 17, op := Op.call { callee := Callee.value (Operand.tmp 7), args := #[Operand.tmp 12, Operand.tmp 16], argTypes := #[23, 3] }, type := 25, pos := "sets.go:48", after := #[{ on := 0, ground := Ground.data }, { on := 5, ground := Ground.data }, { on := 9, ground := Ground.data }], guard := none }) rfl (fun K hK => ?_) AllReadyH.nil
  go_simp
  refine (hg.out x n ox.1 ox.2.1 ox.2.2 on _).mono ?_
  rintro e v1 ⟨rfl, hq⟩
  have hq : Below v0.heap.size v0 v1 := ⟨hq.os, hq.tape, hq.output, hq.size, hq.block⟩
  have hS := hHeld.trans (hq.mono hHeld.size)
  have BC := BC.keep hq
  go_wp2_with fail
  refine hK.out _ _ hS (fun hHeld => ?_)
  clear hK K hHeld
  clear hq
  have hHeld := hS
  clear hS
  try simp only [Act.put, List.setIfInBounds_toArray, List.set_cons_zero, List.set_cons_succ]
  refine wpAnyH_take (i := 11) (oi := { dst := some 18, op := Op.extract (Operand.tmp 17) 0, type := 23, pos := "sets.go:48", after := #[{ on := 10, ground := Ground.data }], guard := none }) (v := ?_) rfl (by kernel_rfl) (by kernel_rfl) (by kernel_rfl) (fun _ _ _ h => h) (Or.inl ⟨by rfl, ?_⟩) (by assumption) ?_
  rotate_left
  · (intro wq hSw; (try dsimp only at hSw); have p0 := (hSw.cell (p := ⟨c0, 0, none⟩) zc0).trans P0.out; have p1 := (hSw.cell (p := ⟨c1, 0, none⟩) zc1).trans P1.out; have p2 := (hSw.cell (p := ⟨c2, 0, none⟩) zc2).trans P2.out; have q0 := (hSw.cell (p := ⟨b, o + i * 3, none⟩) zb).trans PX.out.1; have q1 := (hSw.cell (p := ⟨b, o + i * 3 + 1, none⟩) zb).trans PX.out.2.1; have q2 := (hSw.cell (p := ⟨b, o + i * 3 + 2, none⟩) zb).trans PX.out.2.2; have r0 := (hSw.cell (p := ⟨bi, oi + i, none⟩) zbi).trans PN.out; clear hSw; go_simp; first | done | with_reducible rfl)
  try simp only [Act.put, List.setIfInBounds_toArray, List.set_cons_zero, List.set_cons_succ]
  refine wpAnyH_take (i := 12) (oi := { dst := some 19, op := Op.extract (Operand.tmp 17) 1, type := 24, pos := "sets.go:48", after := #[{ on := 10, ground := Ground.data }], guard := none }) (v := ?_) rfl (by kernel_rfl) (by kernel_rfl) (by kernel_rfl) (fun _ _ _ h => h) (Or.inl ⟨by rfl, ?_⟩) (by assumption) ?_
  rotate_left
  · (intro wq hSw; (try dsimp only at hSw); have p0 := (hSw.cell (p := ⟨c0, 0, none⟩) zc0).trans P0.out; have p1 := (hSw.cell (p := ⟨c1, 0, none⟩) zc1).trans P1.out; have p2 := (hSw.cell (p := ⟨c2, 0, none⟩) zc2).trans P2.out; have q0 := (hSw.cell (p := ⟨b, o + i * 3, none⟩) zb).trans PX.out.1; have q1 := (hSw.cell (p := ⟨b, o + i * 3 + 1, none⟩) zb).trans PX.out.2.1; have q2 := (hSw.cell (p := ⟨b, o + i * 3 + 2, none⟩) zb).trans PX.out.2.2; have r0 := (hSw.cell (p := ⟨bi, oi + i, none⟩) zbi).trans PN.out; clear hSw; go_simp; first | done | with_reducible rfl)
  try simp only [Act.put, List.setIfInBounds_toArray, List.set_cons_zero, List.set_cons_succ]
  refine wpAnyH_ready (rs := [13]) (by kernel_rfl) (by simp) ?_
  refine AllReadyH.cons (o := { dst := none, op := Op.store 23 (Operand.tmp 5) (Operand.tmp 18), type := 0, pos := "sets.go:48", after := #[{ on := 11, ground := Ground.data }, { on := 10, ground := Ground.chain }, { on := 0, ground := Ground.phase }, { on := 1, ground := Ground.phase }, { on := 2, ground := Ground.phase }, { on := 3, ground := Ground.phase }, { on := 4, ground := Ground.phase }, { on := 5, ground := Ground.phase }, { on := 6, ground := Ground.phase }, { on := 7, ground := Ground.phase }, { on := 8, ground := Ground.phase }, { on := 9, ground := Ground.phase }, { on := 10, ground := Ground.phase }, { on := 11, ground := Ground.phase }, { on := 12, ground := Ground.phase }], guard := none }) rfl (fun K hK => ?_) AllReadyH.nil
  go_simp
  have c0 := BC.c0
  have c1 := BC.c1
  have c2 := BC.c2
  have f0 := BC.f0
  have f1 := BC.f1
  have f2 := BC.f2
  go_simp
  have hS := hHeld.trans (set3s_below (Nat.le_refl w.heap.size) (.int .i64 (g x n).1.1) (.int .i64 (g x n).1.2.1) (.int .i64 (g x n).1.2.2))
  have BC := BC.set (.int .i64 (g x n).1.1) (.int .i64 (g x n).1.2.1) (.int .i64 (g x n).1.2.2)
  refine hK.out _ _ hS (fun hHeld => ?_)
  clear hK K hHeld
  clear c0 c1 c2 f0 f1 f2
  change wpAnyH _ _ _ _ _ _ _ _ (set3 v1 w.heap.size (.int .i64 (g x n).1.1) (.int .i64 (g x n).1.2.1) (.int .i64 (g x n).1.2.2))
  generalize set3 v1 w.heap.size (.int .i64 (g x n).1.1) (.int .i64 (g x n).1.2.1) (.int .i64 (g x n).1.2.2) = v2 at *
  have hHeld := hS
  clear hS
  try simp only [Act.put, List.setIfInBounds_toArray, List.set_cons_zero, List.set_cons_succ]
  refine wpAnyH_take (i := 14) (oi := { dst := some 6, op := Op.assign (Operand.tmp 19), type := 24, pos := "sets.go:48", after := #[{ on := 12, ground := Ground.data }, { on := 13, ground := Ground.chain }, { on := 0, ground := Ground.phase }, { on := 1, ground := Ground.phase }, { on := 2, ground := Ground.phase }, { on := 3, ground := Ground.phase }, { on := 4, ground := Ground.phase }, { on := 5, ground := Ground.phase }, { on := 6, ground := Ground.phase }, { on := 7, ground := Ground.phase }, { on := 8, ground := Ground.phase }, { on := 9, ground := Ground.phase }, { on := 10, ground := Ground.phase }, { on := 11, ground := Ground.phase }, { on := 12, ground := Ground.phase }, { on := 13, ground := Ground.phase }], guard := none }) (v := ?_) rfl (by kernel_rfl) (by kernel_rfl) (by kernel_rfl) (fun _ _ _ h => h) (Or.inl ⟨by rfl, ?_⟩) (by assumption) ?_
  rotate_left
  · (intro wq hSw; (try dsimp only at hSw); have p0 := (hSw.cell (p := ⟨c0, 0, none⟩) zc0).trans P0.out; have p1 := (hSw.cell (p := ⟨c1, 0, none⟩) zc1).trans P1.out; have p2 := (hSw.cell (p := ⟨c2, 0, none⟩) zc2).trans P2.out; have q0 := (hSw.cell (p := ⟨b, o + i * 3, none⟩) zb).trans PX.out.1; have q1 := (hSw.cell (p := ⟨b, o + i * 3 + 1, none⟩) zb).trans PX.out.2.1; have q2 := (hSw.cell (p := ⟨b, o + i * 3 + 2, none⟩) zb).trans PX.out.2.2; have r0 := (hSw.cell (p := ⟨bi, oi + i, none⟩) zbi).trans PN.out; clear hSw; go_simp; first | done | with_reducible rfl)
  try simp only [Act.put, List.setIfInBounds_toArray, List.set_cons_zero, List.set_cons_succ]
  refine wpAnyH_done (by kernel_rfl) ?_ _
  have HB := Lib.hid hHeld
  have d0 := BC.c0
  have d1 := BC.c1
  have d2 := BC.c2
  clear hHeld BC
  go_wp2
  exact bodyPost_ret (v := .tuple #[.agg #[.int .i64 (g x n).1.1, .int .i64 (g x n).1.2.1, .int .i64 (g x n).1.2.2], .int .i64 (g x n).2]) (by simp [results, Try.results175, go_sem, *]) rfl ⟨_, _, _, _, rfl, HB.out, Lib.hid ⟨x, n, FX.out, FN.out, rfl, rfl⟩⟩
set_option maxRecDepth 100000 in
set_option maxHeartbeats 3200000 in
theorem giveExpand (g : Mv) (hg : Hid (MvOk 37 g)) (L : List R3) (ns : List Int) (w0 : World) (hL : Ok3 L) (hN : Ok1 ns) : GivesMv (.func (.func 37) #[] #[]) L ns (RMv g L ns) w0 := by
  intro c0 c1 c2 b o cap bi oi ci i w hw p0 p1 p2 zb zbi at3 at1 hi ln hn
  obtain ⟨x, hx⟩ : ∃ x, L[i]? = some x := ⟨L[i], List.getElem?_eq_getElem hi⟩
  obtain ⟨n, hn'⟩ : ∃ n, ns[i]? = some n := ⟨ns[i]'(by omega), List.getElem?_eq_getElem _⟩
  have ox := hL x (List.mem_of_getElem? hx)
  have on := hN n (List.mem_of_getElem? hn')
  have PX := Lib.hid (at3 i x hx)
  have PN := Lib.hid (at1 i n hn')
  have P0 := Lib.hid p0
  have P1 := Lib.hid p1
  have P2 := Lib.hid p2
  have FX := Lib.hid hx
  have FN := Lib.hid hn'
  have zc0 : c0 < w.heap.size := World.block_lt_of_cell? w _ p0
  have zc1 : c1 < w.heap.size := World.block_lt_of_cell? w _ p1
  have zc2 : c2 < w.heap.size := World.block_lt_of_cell? w _ p2
  have hi2 : i < ns.length := by omega
  have li : (L.length : Int) ≤ 2 := by omega
  have ni : (ns.length : Int) ≤ 2 := by omega
  clear hx hn' at3 at1 p0 p1 p2 hL hN ln
  have W1 : Below w.heap.size w (w.alloc (.cells #[.int .i64 0, .int .i64 0, .int .i64 0] 23)) := below_new _ _
  have BC := B3.new (.int .i64 0) (.int .i64 0) (.int .i64 0) 23 w
  go_enter Try.func175, Try.ntmps175
  go_upto_region 1 with fail
  generalize w.alloc (.cells #[.int .i64 0, .int .i64 0, .int .i64 0] 23) = w1 at *
  refine wp_region_held_drew (S := (fun w' => Below w.heap.size w w')) (by kernel_rfl) (to_drew W1) (fun hHeld => ?_)
  have BC := BC.keep (to_drew (Below.refl _ _))
  clear W1
  obtain ⟨v0, hv0⟩ : ∃ v0, v0 = w1.drew := ⟨_, rfl⟩
  rw [← hv0] at hHeld BC ⊢
  clear hv0
  refine wpAnyH_take (i := 0) (oi := { dst := some 7, op := Op.load 36 (Operand.tmp 1), type := 36, pos := "sets.go:48", after := #[], guard := none }) (v := ?_) rfl (by kernel_rfl) (by kernel_rfl) (by kernel_rfl) (fun _ _ _ h => h) (Or.inl ⟨by rfl, ?_⟩) (by assumption) ?_
  rotate_left
  · (intro wq hSw; (try dsimp only at hSw); have p0 := (hSw.cell (p := ⟨c0, 0, none⟩) zc0).trans P0.out; have p1 := (hSw.cell (p := ⟨c1, 0, none⟩) zc1).trans P1.out; have p2 := (hSw.cell (p := ⟨c2, 0, none⟩) zc2).trans P2.out; have q0 := (hSw.cell (p := ⟨b, o + i * 3, none⟩) zb).trans PX.out.1; have q1 := (hSw.cell (p := ⟨b, o + i * 3 + 1, none⟩) zb).trans PX.out.2.1; have q2 := (hSw.cell (p := ⟨b, o + i * 3 + 2, none⟩) zb).trans PX.out.2.2; have r0 := (hSw.cell (p := ⟨bi, oi + i, none⟩) zbi).trans PN.out; clear hSw; go_simp; first | done | with_reducible rfl)
  try simp only [Act.put, List.setIfInBounds_toArray, List.set_cons_zero, List.set_cons_succ]
  refine wpAnyH_take (i := 1) (oi := { dst := some 8, op := Op.fieldAddr 62 (Operand.tmp 2) 0, type := 0, pos := "sets.go:48", after := #[], guard := none }) (v := ?_) rfl (by kernel_rfl) (by kernel_rfl) (by kernel_rfl) (fun _ _ _ h => h) (Or.inl ⟨by rfl, ?_⟩) (by assumption) ?_
  rotate_left
  · (intro wq hSw; (try dsimp only at hSw); have p0 := (hSw.cell (p := ⟨c0, 0, none⟩) zc0).trans P0.out; have p1 := (hSw.cell (p := ⟨c1, 0, none⟩) zc1).trans P1.out; have p2 := (hSw.cell (p := ⟨c2, 0, none⟩) zc2).trans P2.out; have q0 := (hSw.cell (p := ⟨b, o + i * 3, none⟩) zb).trans PX.out.1; have q1 := (hSw.cell (p := ⟨b, o + i * 3 + 1, none⟩) zb).trans PX.out.2.1; have q2 := (hSw.cell (p := ⟨b, o + i * 3 + 2, none⟩) zb).trans PX.out.2.2; have r0 := (hSw.cell (p := ⟨bi, oi + i, none⟩) zbi).trans PN.out; clear hSw; go_simp; first | done | with_reducible rfl)
  try simp only [Act.put, List.setIfInBounds_toArray, List.set_cons_zero, List.set_cons_succ]
  refine wpAnyH_take (i := 2) (oi := { dst := some 9, op := Op.load 40 (Operand.tmp 8), type := 40, pos := "sets.go:48", after := #[{ on := 1, ground := Ground.data }], guard := none }) (v := ?_) rfl (by kernel_rfl) (by kernel_rfl) (by kernel_rfl) (fun _ _ _ h => h) (Or.inl ⟨by rfl, ?_⟩) (by assumption) ?_
  rotate_left
  · (intro wq hSw; (try dsimp only at hSw); have p0 := (hSw.cell (p := ⟨c0, 0, none⟩) zc0).trans P0.out; have p1 := (hSw.cell (p := ⟨c1, 0, none⟩) zc1).trans P1.out; have p2 := (hSw.cell (p := ⟨c2, 0, none⟩) zc2).trans P2.out; have q0 := (hSw.cell (p := ⟨b, o + i * 3, none⟩) zb).trans PX.out.1; have q1 := (hSw.cell (p := ⟨b, o + i * 3 + 1, none⟩) zb).trans PX.out.2.1; have q2 := (hSw.cell (p := ⟨b, o + i * 3 + 2, none⟩) zb).trans PX.out.2.2; have r0 := (hSw.cell (p := ⟨bi, oi + i, none⟩) zbi).trans PN.out; clear hSw; go_simp; first | done | with_reducible rfl)
  try simp only [Act.put, List.setIfInBounds_toArray, List.set_cons_zero, List.set_cons_succ]
  refine wpAnyH_take (i := 3) (oi := { dst := some 10, op := Op.move (Operand.tmp 0), type := 3, pos := "sets.go:48", after := #[], guard := none }) (v := ?_) rfl (by kernel_rfl) (by kernel_rfl) (by kernel_rfl) (fun _ _ _ h => h) (Or.inl ⟨by rfl, ?_⟩) (by assumption) ?_
  rotate_left
  · (intro wq hSw; (try dsimp only at hSw); have p0 := (hSw.cell (p := ⟨c0, 0, none⟩) zc0).trans P0.out; have p1 := (hSw.cell (p := ⟨c1, 0, none⟩) zc1).trans P1.out; have p2 := (hSw.cell (p := ⟨c2, 0, none⟩) zc2).trans P2.out; have q0 := (hSw.cell (p := ⟨b, o + i * 3, none⟩) zb).trans PX.out.1; have q1 := (hSw.cell (p := ⟨b, o + i * 3 + 1, none⟩) zb).trans PX.out.2.1; have q2 := (hSw.cell (p := ⟨b, o + i * 3 + 2, none⟩) zb).trans PX.out.2.2; have r0 := (hSw.cell (p := ⟨bi, oi + i, none⟩) zbi).trans PN.out; clear hSw; go_simp; first | done | with_reducible rfl)
  try simp only [Act.put, List.setIfInBounds_toArray, List.set_cons_zero, List.set_cons_succ]
  refine wpAnyH_take (i := 4) (oi := { dst := some 11, op := Op.indexAddr 40 (Operand.tmp 9) (Operand.tmp 10), type := 0, pos := "sets.go:48", after := #[{ on := 2, ground := Ground.data }, { on := 3, ground := Ground.data }], guard := none }) (v := ?_) rfl (by kernel_rfl) (by kernel_rfl) (by kernel_rfl) (fun _ _ _ h => h) (Or.inl ⟨by rfl, ?_⟩) (by assumption) ?_
  rotate_left
  · (intro wq hSw; (try dsimp only at hSw); have p0 := (hSw.cell (p := ⟨c0, 0, none⟩) zc0).trans P0.out; have p1 := (hSw.cell (p := ⟨c1, 0, none⟩) zc1).trans P1.out; have p2 := (hSw.cell (p := ⟨c2, 0, none⟩) zc2).trans P2.out; have q0 := (hSw.cell (p := ⟨b, o + i * 3, none⟩) zb).trans PX.out.1; have q1 := (hSw.cell (p := ⟨b, o + i * 3 + 1, none⟩) zb).trans PX.out.2.1; have q2 := (hSw.cell (p := ⟨b, o + i * 3 + 2, none⟩) zb).trans PX.out.2.2; have r0 := (hSw.cell (p := ⟨bi, oi + i, none⟩) zbi).trans PN.out; clear hSw; go_simp; first | done | with_reducible rfl)
  try simp only [Act.put, List.setIfInBounds_toArray, List.set_cons_zero, List.set_cons_succ]
  refine wpAnyH_take (i := 5) (oi := { dst := some 12, op := Op.load 23 (Operand.tmp 11), type := 23, pos := "sets.go:48", after := #[{ on := 4, ground := Ground.data }], guard := none }) (v := ?_) rfl (by kernel_rfl) (by kernel_rfl) (by kernel_rfl) (fun _ _ _ h => h) (Or.inl ⟨by rfl, ?_⟩) (by assumption) ?_
  rotate_left
  · (intro wq hSw; (try dsimp only at hSw); have p0 := (hSw.cell (p := ⟨c0, 0, none⟩) zc0).trans P0.out; have p1 := (hSw.cell (p := ⟨c1, 0, none⟩) zc1).trans P1.out; have p2 := (hSw.cell (p := ⟨c2, 0, none⟩) zc2).trans P2.out; have q0 := (hSw.cell (p := ⟨b, o + i * 3, none⟩) zb).trans PX.out.1; have q1 := (hSw.cell (p := ⟨b, o + i * 3 + 1, none⟩) zb).trans PX.out.2.1; have q2 := (hSw.cell (p := ⟨b, o + i * 3 + 2, none⟩) zb).trans PX.out.2.2; have r0 := (hSw.cell (p := ⟨bi, oi + i, none⟩) zbi).trans PN.out; clear hSw; go_simp; first | done | with_reducible rfl)
  try simp only [Act.put, List.setIfInBounds_toArray, List.set_cons_zero, List.set_cons_succ]
  refine wpAnyH_take (i := 6) (oi := { dst := some 13, op := Op.load 48 (Operand.tmp 3), type := 48, pos := "sets.go:48", after := #[], guard := none }) (v := ?_) rfl (by kernel_rfl) (by kernel_rfl) (by kernel_rfl) (fun _ _ _ h => h) (Or.inl ⟨by rfl, ?_⟩) (by assumption) ?_
  rotate_left
  · (intro wq hSw; (try dsimp only at hSw); have p0 := (hSw.cell (p := ⟨c0, 0, none⟩) zc0).trans P0.out; have p1 := (hSw.cell (p := ⟨c1, 0, none⟩) zc1).trans P1.out; have p2 := (hSw.cell (p := ⟨c2, 0, none⟩) zc2).trans P2.out; have q0 := (hSw.cell (p := ⟨b, o + i * 3, none⟩) zb).trans PX.out.1; have q1 := (hSw.cell (p := ⟨b, o + i * 3 + 1, none⟩) zb).trans PX.out.2.1; have q2 := (hSw.cell (p := ⟨b, o + i * 3 + 2, none⟩) zb).trans PX.out.2.2; have r0 := (hSw.cell (p := ⟨bi, oi + i, none⟩) zbi).trans PN.out; clear hSw; go_simp; first | done | with_reducible rfl)
  try simp only [Act.put, List.setIfInBounds_toArray, List.set_cons_zero, List.set_cons_succ]
  refine wpAnyH_take (i := 7) (oi := { dst := some 14, op := Op.move (Operand.tmp 0), type := 3, pos := "sets.go:48", after := #[], guard := none }) (v := ?_) rfl (by kernel_rfl) (by kernel_rfl) (by kernel_rfl) (fun _ _ _ h => h) (Or.inl ⟨by rfl, ?_⟩) (by assumption) ?_
  rotate_left
  · (intro wq hSw; (try dsimp only at hSw); have p0 := (hSw.cell (p := ⟨c0, 0, none⟩) zc0).trans P0.out; have p1 := (hSw.cell (p := ⟨c1, 0, none⟩) zc1).trans P1.out; have p2 := (hSw.cell (p := ⟨c2, 0, none⟩) zc2).trans P2.out; have q0 := (hSw.cell (p := ⟨b, o + i * 3, none⟩) zb).trans PX.out.1; have q1 := (hSw.cell (p := ⟨b, o + i * 3 + 1, none⟩) zb).trans PX.out.2.1; have q2 := (hSw.cell (p := ⟨b, o + i * 3 + 2, none⟩) zb).trans PX.out.2.2; have r0 := (hSw.cell (p := ⟨bi, oi + i, none⟩) zbi).trans PN.out; clear hSw; go_simp; first | done | with_reducible rfl)
  try simp only [Act.put, List.setIfInBounds_toArray, List.set_cons_zero, List.set_cons_succ]
  refine wpAnyH_take (i := 8) (oi := { dst := some 15, op := Op.indexAddr 48 (Operand.tmp 13) (Operand.tmp 14), type := 0, pos := "sets.go:48", after := #[{ on := 6, ground := Ground.data }, { on := 7, ground := Ground.data }], guard := none }) (v := ?_) rfl (by kernel_rfl) (by kernel_rfl) (by kernel_rfl) (fun _ _ _ h => h) (Or.inl ⟨by rfl, ?_⟩) (by assumption) ?_
  rotate_left
  · (intro wq hSw; (try dsimp only at hSw); have p0 := (hSw.cell (p := ⟨c0, 0, none⟩) zc0).trans P0.out; have p1 := (hSw.cell (p := ⟨c1, 0, none⟩) zc1).trans P1.out; have p2 := (hSw.cell (p := ⟨c2, 0, none⟩) zc2).trans P2.out; have q0 := (hSw.cell (p := ⟨b, o + i * 3, none⟩) zb).trans PX.out.1; have q1 := (hSw.cell (p := ⟨b, o + i * 3 + 1, none⟩) zb).trans PX.out.2.1; have q2 := (hSw.cell (p := ⟨b, o + i * 3 + 2, none⟩) zb).trans PX.out.2.2; have r0 := (hSw.cell (p := ⟨bi, oi + i, none⟩) zbi).trans PN.out; clear hSw; go_simp; first | done | with_reducible rfl)
  try simp only [Act.put, List.setIfInBounds_toArray, List.set_cons_zero, List.set_cons_succ]
  refine wpAnyH_take (i := 9) (oi := { dst := some 16, op := Op.load 3 (Operand.tmp 15), type := 3, pos := "sets.go:48", after := #[{ on := 8, ground := Ground.data }], guard := none }) (v := ?_) rfl (by kernel_rfl) (by kernel_rfl) (by kernel_rfl) (fun _ _ _ h => h) (Or.inl ⟨by rfl, ?_⟩) (by assumption) ?_
  rotate_left
  · (intro wq hSw; (try dsimp only at hSw); have p0 := (hSw.cell (p := ⟨c0, 0, none⟩) zc0).trans P0.out; have p1 := (hSw.cell (p := ⟨c1, 0, none⟩) zc1).trans P1.out; have p2 := (hSw.cell (p := ⟨c2, 0, none⟩) zc2).trans P2.out; have q0 := (hSw.cell (p := ⟨b, o + i * 3, none⟩) zb).trans PX.out.1; have q1 := (hSw.cell (p := ⟨b, o + i * 3 + 1, none⟩) zb).trans PX.out.2.1; have q2 := (hSw.cell (p := ⟨b, o + i * 3 + 2, none⟩) zb).trans PX.out.2.2; have r0 := (hSw.cell (p := ⟨bi, oi + i, none⟩) zbi).trans PN.out; clear hSw; go_simp; first | done | with_reducible rfl)
  try simp only [Act.put, List.setIfInBounds_toArray, List.set_cons_zero, List.set_cons_succ]
  refine wpAnyH_ready (rs := [10]) (by kernel_rfl) (by simp) ?_
  refine AllReadyH.cons (o := { dst := some 17, op := Op.call { callee := Callee.value (Operand.tmp 7), args := #[Operand.tmp 12, Operand.tmp 16], argTypes := #[23, 3] }, type := 25, pos := "sets.go:48", after := #[{ on := 0, ground := Ground.data }, { on := 5, ground := Ground.data }, { on := 9, ground := Ground.data }], guard := none }) rfl (fun K hK => ?_) AllReadyH.nil
  go_simp
  refine (hg.out x n ox.1 ox.2.1 ox.2.2 on _).mono ?_
  rintro e v1 ⟨rfl, hq⟩
  have hq : Below v0.heap.size v0 v1 := ⟨hq.os, hq.tape, hq.output, hq.size, hq.block⟩
  have hS := hHeld.trans (hq.mono hHeld.size)
  have BC := BC.keep hq
  go_wp2_with fail
  refine hK.out _ _ hS (fun hHeld => ?_)
  clear hK K hHeld
  clear hq
  have hHeld := hS
  clear hS
  try simp only [Act.put, List.setIfInBounds_toArray, List.set_cons_zero, List.set_cons_succ]
  refine wpAnyH_take (i := 11) (oi := { dst := some 18, op := Op.extract (Operand.tmp 17) 0, type := 23, pos := "sets.go:48", after := #[{ on := 10, ground := Ground.data }], guard := none }) (v := ?_) rfl (by kernel_rfl) (by kernel_rfl) (by kernel_rfl) (fun _ _ _ h => h) (Or.inl ⟨by rfl, ?_⟩) (by assumption) ?_
  rotate_left
  · (intro wq hSw; (try dsimp only at hSw); have p0 := (hSw.cell (p := ⟨c0, 0, none⟩) zc0).trans P0.out; have p1 := (hSw.cell (p := ⟨c1, 0, none⟩) zc1).trans P1.out; have p2 := (hSw.cell (p := ⟨c2, 0, none⟩) zc2).trans P2.out; have q0 := (hSw.cell (p := ⟨b, o + i * 3, none⟩) zb).trans PX.out.1; have q1 := (hSw.cell (p := ⟨b, o + i * 3 + 1, none⟩) zb).trans PX.out.2.1; have q2 := (hSw.cell (p := ⟨b, o + i * 3 + 2, none⟩) zb).trans PX.out.2.2; have r0 := (hSw.cell (p := ⟨bi, oi + i, none⟩) zbi).trans PN.out; clear hSw; go_simp; first | done | with_reducible rfl)
  try simp only [Act.put, List.setIfInBounds_toArray, List.set_cons_zero, List.set_cons_succ]
  refine wpAnyH_take (i := 12) (oi := { dst := some 19, op := Op.extract (Operand.tmp 17) 1, type := 24, pos := "sets.go:48", after := #[{ on := 10, ground := Ground.data }], guard := none }) (v := ?_) rfl (by kernel_rfl) (by kernel_rfl) (by kernel_rfl) (fun _ _ _ h => h) (Or.inl ⟨by rfl, ?_⟩) (by assumption) ?_
  rotate_left
  · (intro wq hSw; (try dsimp only at hSw); have p0 := (hSw.cell (p := ⟨c0, 0, none⟩) zc0).trans P0.out; have p1 := (hSw.cell (p := ⟨c1, 0, none⟩) zc1).trans P1.out; have p2 := (hSw.cell (p := ⟨c2, 0, none⟩) zc2).trans P2.out; have q0 := (hSw.cell (p := ⟨b, o + i * 3, none⟩) zb).trans PX.out.1; have q1 := (hSw.cell (p := ⟨b, o + i * 3 + 1, none⟩) zb).trans PX.out.2.1; have q2 := (hSw.cell (p := ⟨b, o + i * 3 + 2, none⟩) zb).trans PX.out.2.2; have r0 := (hSw.cell (p := ⟨bi, oi + i, none⟩) zbi).trans PN.out; clear hSw; go_simp; first | done | with_reducible rfl)
  try simp only [Act.put, List.setIfInBounds_toArray, List.set_cons_zero, List.set_cons_succ]
  refine wpAnyH_ready (rs := [13]) (by kernel_rfl) (by simp) ?_
  refine AllReadyH.cons (o := { dst := none, op := Op.store 23 (Operand.tmp 5) (Operand.tmp 18), type := 0, pos := "sets.go:48", after := #[{ on := 11, ground := Ground.data }, { on := 10, ground := Ground.chain }, { on := 0, ground := Ground.phase }, { on := 1, ground := Ground.phase }, { on := 2, ground := Ground.phase }, { on := 3, ground := Ground.phase }, { on := 4, ground := Ground.phase }, { on := 5, ground := Ground.phase }, { on := 6, ground := Ground.phase }, { on := 7, ground := Ground.phase }, { on := 8, ground := Ground.phase }, { on := 9, ground := Ground.phase }, { on := 10, ground := Ground.phase }, { on := 11, ground := Ground.phase }, { on := 12, ground := Ground.phase }], guard := none }) rfl (fun K hK => ?_) AllReadyH.nil
  go_simp
  have c0 := BC.c0
  have c1 := BC.c1
  have c2 := BC.c2
  have f0 := BC.f0
  have f1 := BC.f1
  have f2 := BC.f2
  go_simp
  have hS := hHeld.trans (set3s_below (Nat.le_refl w.heap.size) (.int .i64 (g x n).1.1) (.int .i64 (g x n).1.2.1) (.int .i64 (g x n).1.2.2))
  have BC := BC.set (.int .i64 (g x n).1.1) (.int .i64 (g x n).1.2.1) (.int .i64 (g x n).1.2.2)
  refine hK.out _ _ hS (fun hHeld => ?_)
  clear hK K hHeld
  clear c0 c1 c2 f0 f1 f2
  change wpAnyH _ _ _ _ _ _ _ _ (set3 v1 w.heap.size (.int .i64 (g x n).1.1) (.int .i64 (g x n).1.2.1) (.int .i64 (g x n).1.2.2))
  generalize set3 v1 w.heap.size (.int .i64 (g x n).1.1) (.int .i64 (g x n).1.2.1) (.int .i64 (g x n).1.2.2) = v2 at *
  have hHeld := hS
  clear hS
  try simp only [Act.put, List.setIfInBounds_toArray, List.set_cons_zero, List.set_cons_succ]
  refine wpAnyH_take (i := 14) (oi := { dst := some 6, op := Op.assign (Operand.tmp 19), type := 24, pos := "sets.go:48", after := #[{ on := 12, ground := Ground.data }, { on := 13, ground := Ground.chain }, { on := 0, ground := Ground.phase }, { on := 1, ground := Ground.phase }, { on := 2, ground := Ground.phase }, { on := 3, ground := Ground.phase }, { on := 4, ground := Ground.phase }, { on := 5, ground := Ground.phase }, { on := 6, ground := Ground.phase }, { on := 7, ground := Ground.phase }, { on := 8, ground := Ground.phase }, { on := 9, ground := Ground.phase }, { on := 10, ground := Ground.phase }, { on := 11, ground := Ground.phase }, { on := 12, ground := Ground.phase }, { on := 13, ground := Ground.phase }], guard := none }) (v := ?_) rfl (by kernel_rfl) (by kernel_rfl) (by kernel_rfl) (fun _ _ _ h => h) (Or.inl ⟨by rfl, ?_⟩) (by assumption) ?_
  rotate_left
  · (intro wq hSw; (try dsimp only at hSw); have p0 := (hSw.cell (p := ⟨c0, 0, none⟩) zc0).trans P0.out; have p1 := (hSw.cell (p := ⟨c1, 0, none⟩) zc1).trans P1.out; have p2 := (hSw.cell (p := ⟨c2, 0, none⟩) zc2).trans P2.out; have q0 := (hSw.cell (p := ⟨b, o + i * 3, none⟩) zb).trans PX.out.1; have q1 := (hSw.cell (p := ⟨b, o + i * 3 + 1, none⟩) zb).trans PX.out.2.1; have q2 := (hSw.cell (p := ⟨b, o + i * 3 + 2, none⟩) zb).trans PX.out.2.2; have r0 := (hSw.cell (p := ⟨bi, oi + i, none⟩) zbi).trans PN.out; clear hSw; go_simp; first | done | with_reducible rfl)
  try simp only [Act.put, List.setIfInBounds_toArray, List.set_cons_zero, List.set_cons_succ]
  refine wpAnyH_done (by kernel_rfl) ?_ _
  have HB := Lib.hid hHeld
  have d0 := BC.c0
  have d1 := BC.c1
  have d2 := BC.c2
  clear hHeld BC
  go_wp2
  exact bodyPost_ret (v := .tuple #[.agg #[.int .i64 (g x n).1.1, .int .i64 (g x n).1.2.1, .int .i64 (g x n).1.2.2], .int .i64 (g x n).2]) (by simp [results, Try.results175, go_sem, *]) rfl ⟨_, _, _, _, rfl, HB.out, Lib.hid ⟨x, n, FX.out, FN.out, rfl, rfl⟩⟩
/-- the closure of unlessZero, over a function that lies in its box -/
def UlOk (c3 : Nat) (fv : Value) (g : Mv) : Prop := ∀ (x : R3) (n : Int) (w : World), w.cell? ⟨c3, 0, none⟩ = some fv → I64 x.1 → I64 x.2.1 → I64 x.2.2 → I64 n →
    Calls Try.prog 176 #[.agg #[.int .i64 x.1, .int .i64 x.2.1, .int .i64 x.2.2], .int .i64 n, .pointer (some ⟨c3, 0, none⟩)] w fun e w' => e = .returned (.tuple #[.agg #[.int .i64 (uz g x n).1.1, .int .i64 (uz g x n).1.2.1, .int .i64 (uz g x n).1.2.2], .int .i64 (uz g x n).2]) ∧ Below w.heap.size w w'
set_option maxRecDepth 100000 in
set_option maxHeartbeats 3200000 in
theorem giveUnlessZero (g : Mv) (c3 : Nat) (fv : Value) (hu : Hid (UlOk c3 fv g)) (L : List R3) (ns : List Int) (w0 : World) (hL : Ok3 L) (hN : Ok1 ns) (hc : w0.cell? ⟨c3, 0, none⟩ = some fv) : GivesMv (.func (.func 176) #[] #[.pointer (some ⟨c3, 0, none⟩)]) L ns (RMv (uz g) L ns) w0 := by
  intro c0 c1 c2 b o cap bi oi ci i w hw p0 p1 p2 zb zbi at3 at1 hi ln hn
  obtain ⟨x, hx⟩ : ∃ x, L[i]? = some x := ⟨L[i], List.getElem?_eq_getElem hi⟩
  obtain ⟨n, hn'⟩ : ∃ n, ns[i]? = some n := ⟨ns[i]'(by omega), List.getElem?_eq_getElem _⟩
  have ox := hL x (List.mem_of_getElem? hx)
  have on := hN n (List.mem_of_getElem? hn')
  have PX := Lib.hid (at3 i x hx)
  have PN := Lib.hid (at1 i n hn')
  have P0 := Lib.hid p0
  have P1 := Lib.hid p1
  have P2 := Lib.hid p2
  have FX := Lib.hid hx
  have FN := Lib.hid hn'
  have zc0 : c0 < w.heap.size := World.block_lt_of_cell? w _ p0
  have zc1 : c1 < w.heap.size := World.block_lt_of_cell? w _ p1
  have zc2 : c2 < w.heap.size := World.block_lt_of_cell? w _ p2
  have hi2 : i < ns.length := by omega
  have li : (L.length : Int) ≤ 2 := by omega
  have ni : (ns.length : Int) ≤ 2 := by omega
  have zc3 : c3 < w0.heap.size := World.block_lt_of_cell? w0 _ hc
  have HC3 := Lib.hid ((hw.cell (p := ⟨c3, 0, none⟩) zc3).trans hc)
  have zc3 : c3 < w.heap.size := Nat.lt_of_lt_of_le zc3 hw.size
  clear hc
  clear hx hn' at3 at1 p0 p1 p2 hL hN ln
  have W1 : Below w.heap.size w (w.alloc (.cells #[.int .i64 0, .int .i64 0, .int .i64 0] 23)) := below_new _ _
  have BC := B3.new (.int .i64 0) (.int .i64 0) (.int .i64 0) 23 w
  go_enter Try.func175, Try.ntmps175
  go_upto_region 1 with fail
  generalize w.alloc (.cells #[.int .i64 0, .int .i64 0, .int .i64 0] 23) = w1 at *
  refine wp_region_held_drew (S := (fun w' => Below w.heap.size w w')) (by kernel_rfl) (to_drew W1) (fun hHeld => ?_)
  have BC := BC.keep (to_drew (Below.refl _ _))
  clear W1
  obtain ⟨v0, hv0⟩ : ∃ v0, v0 = w1.drew := ⟨_, rfl⟩
  rw [← hv0] at hHeld BC ⊢
  clear hv0
  refine wpAnyH_take (i := 0) (oi := { dst := some 7, op := Op.load 36 (Operand.tmp 1), type := 36, pos := "sets.go:48", after := #[], guard := none }) (v := ?_) rfl (by kernel_rfl) (by kernel_rfl) (by kernel_rfl) (fun _ _ _ h => h) (Or.inl ⟨by rfl, ?_⟩) (by assumption) ?_
  rotate_left
  · (intro wq hSw; (try dsimp only at hSw); have p0 := (hSw.cell (p := ⟨c0, 0, none⟩) zc0).trans P0.out; have p1 := (hSw.cell (p := ⟨c1, 0, none⟩) zc1).trans P1.out; have p2 := (hSw.cell (p := ⟨c2, 0, none⟩) zc2).trans P2.out; have q0 := (hSw.cell (p := ⟨b, o + i * 3, none⟩) zb).trans PX.out.1; have q1 := (hSw.cell (p := ⟨b, o + i * 3 + 1, none⟩) zb).trans PX.out.2.1; have q2 := (hSw.cell (p := ⟨b, o + i * 3 + 2, none⟩) zb).trans PX.out.2.2; have r0 := (hSw.cell (p := ⟨bi, oi + i, none⟩) zbi).trans PN.out; clear hSw; go_simp; first | done | with_reducible rfl)
  try simp only [Act.put, List.setIfInBounds_toArray, List.set_cons_zero, List.set_cons_succ]
  refine wpAnyH_take (i := 1) (oi := { dst := some 8, op := Op.fieldAddr 62 (Operand.tmp 2) 0, type := 0, pos := "sets.go:48", after := #[], guard := none }) (v := ?_) rfl (by kernel_rfl) (by kernel_rfl) (by kernel_rfl) (fun _ _ _ h => h) (Or.inl ⟨by rfl, ?_⟩) (by assumption) ?_
  rotate_left
  · (intro wq hSw; (try dsimp only at hSw); have p0 := (hSw.cell (p := ⟨c0, 0, none⟩) zc0).trans P0.out; have p1 := (hSw.cell (p := ⟨c1, 0, none⟩) zc1).trans P1.out; have p2 := (hSw.cell (p := ⟨c2, 0, none⟩) zc2).trans P2.out; have q0 := (hSw.cell (p := ⟨b, o + i * 3, none⟩) zb).trans PX.out.1; have q1 := (hSw.cell (p := ⟨b, o + i * 3 + 1, none⟩) zb).trans PX.out.2.1; have q2 := (hSw.cell (p := ⟨b, o + i * 3 + 2, none⟩) zb).trans PX.out.2.2; have r0 := (hSw.cell (p := ⟨bi, oi + i, none⟩) zbi).trans PN.out; clear hSw; go_simp; first | done | with_reducible rfl)
  try simp only [Act.put, List.setIfInBounds_toArray, List.set_cons_zero, List.set_cons_succ]
  refine wpAnyH_take (i := 2) (oi := { dst := some 9, op := Op.load 40 (Operand.tmp 8), type := 40, pos := "sets.go:48", after := #[{ on := 1, ground := Ground.data }], guard := none }) (v := ?_) rfl (by kernel_rfl) (by kernel_rfl) (by kernel_rfl) (fun _ _ _ h => h) (Or.inl ⟨by rfl, ?_⟩) (by assumption) ?_
  rotate_left
  · (intro wq hSw; (try dsimp only at hSw); have p0 := (hSw.cell (p := ⟨c0, 0, none⟩) zc0).trans P0.out; have p1 := (hSw.cell (p := ⟨c1, 0, none⟩) zc1).trans P1.out; have p2 := (hSw.cell (p := ⟨c2, 0, none⟩) zc2).trans P2.out; have q0 := (hSw.cell (p := ⟨b, o + i * 3, none⟩) zb).trans PX.out.1; have q1 := (hSw.cell (p := ⟨b, o + i * 3 + 1, none⟩) zb).trans PX.out.2.1; have q2 := (hSw.cell (p := ⟨b, o + i * 3 + 2, none⟩) zb).trans PX.out.2.2; have r0 := (hSw.cell (p := ⟨bi, oi + i, none⟩) zbi).trans PN.out; clear hSw; go_simp; first | done | with_reducible rfl)
  try simp only [Act.put, List.setIfInBounds_toArray, List.set_cons_zero, List.set_cons_succ]
  refine wpAnyH_take (i := 3) (oi := { dst := some 10, op := Op.move (Operand.tmp 0), type := 3, pos := "sets.go:48", after := #[], guard := none }) (v := ?_) rfl (by kernel_rfl) (by kernel_rfl) (by kernel_rfl) (fun _ _ _ h => h) (Or.inl ⟨by rfl, ?_⟩) (by assumption) ?_
  rotate_left
  · (intro wq hSw; (try dsimp only at hSw); have p0 := (hSw.cell (p := ⟨c0, 0, none⟩) zc0).trans P0.out; have p1 := (hSw.cell (p := ⟨c1, 0, none⟩) zc1).trans P1.out; have p2 := (hSw.cell (p := ⟨c2, 0, none⟩) zc2).trans P2.out; have q0 := (hSw.cell (p := ⟨b, o + i * 3, none⟩) zb).trans PX.out.1; have q1 := (hSw.cell (p := ⟨b, o + i * 3 + 1, none⟩) zb).trans PX.out.2.1; have q2 := (hSw.cell (p := ⟨b, o + i * 3 + 2, none⟩) zb).trans PX.out.2.2; have r0 := (hSw.cell (p := ⟨bi, oi + i, none⟩) zbi).trans PN.out; clear hSw; go_simp; first | done | with_reducible rfl)
  try simp only [Act.put, List.setIfInBounds_toArray, List.set_cons_zero, List.set_cons_succ]
  refine wpAnyH_take (i := 4) (oi := { dst := some 11, op := Op.indexAddr 40 (Operand.tmp 9) (Operand.tmp 10), type := 0, pos := "sets.go:48", after := #[{ on := 2, ground := Ground.data }, { on := 3, ground := Ground.data }], guard := none }) (v := ?_) rfl (by kernel_rfl) (by kernel_rfl) (by kernel_rfl) (fun _ _ _ h => h) (Or.inl ⟨by rfl, ?_⟩) (by assumption) ?_
  rotate_left
  · (intro wq hSw; (try dsimp only at hSw); have p0 := (hSw.cell (p := ⟨c0, 0, none⟩) zc0).trans P0.out; have p1 := (hSw.cell (p := ⟨c1, 0, none⟩) zc1).trans P1.out; have p2 := (hSw.cell (p := ⟨c2, 0, none⟩) zc2).trans P2.out; have q0 := (hSw.cell (p := ⟨b, o + i * 3, none⟩) zb).trans PX.out.1; have q1 := (hSw.cell (p := ⟨b, o + i * 3 + 1, none⟩) zb).trans PX.out.2.1; have q2 := (hSw.cell (p := ⟨b, o + i * 3 + 2, none⟩) zb).trans PX.out.2.2; have r0 := (hSw.cell (p := ⟨bi, oi + i, none⟩) zbi).trans PN.out; clear hSw; go_simp; first | done | with_reducible rfl)
  try simp only [Act.put, List.setIfInBounds_toArray, List.set_cons_zero, List.set_cons_succ]
  refine wpAnyH_take (i := 5) (oi := { dst := some 12, op := Op.load 23 (Operand.tmp 11), type := 23, pos := "sets.go:48", after := #[{ on := 4, ground := Ground.data }], guard := none }) (v := ?_) rfl (by kernel_rfl) (by kernel_rfl) (by kernel_rfl) (fun _ _ _ h => h) (Or.inl ⟨by rfl, ?_⟩) (by assumption) ?_
  rotate_left
  · (intro wq hSw; (try dsimp only at hSw); have p0 := (hSw.cell (p := ⟨c0, 0, none⟩) zc0).trans P0.out; have p1 := (hSw.cell (p := ⟨c1, 0, none⟩) zc1).trans P1.out; have p2 := (hSw.cell (p := ⟨c2, 0, none⟩) zc2).trans P2.out; have q0 := (hSw.cell (p := ⟨b, o + i * 3, none⟩) zb).trans PX.out.1; have q1 := (hSw.cell (p := ⟨b, o + i * 3 + 1, none⟩) zb).trans PX.out.2.1; have q2 := (hSw.cell (p := ⟨b, o + i * 3 + 2, none⟩) zb).trans PX.out.2.2; have r0 := (hSw.cell (p := ⟨bi, oi + i, none⟩) zbi).trans PN.out; clear hSw; go_simp; first | done | with_reducible rfl)
  try simp only [Act.put, List.setIfInBounds_toArray, List.set_cons_zero, List.set_cons_succ]
  refine wpAnyH_take (i := 6) (oi := { dst := some 13, op := Op.load 48 (Operand.tmp 3), type := 48, pos := "sets.go:48", after := #[], guard := none }) (v := ?_) rfl (by kernel_rfl) (by kernel_rfl) (by kernel_rfl) (fun _ _ _ h => h) (Or.inl ⟨by rfl, ?_⟩) (by assumption) ?_
  rotate_left
  · (intro wq hSw; (try dsimp only at hSw); have p0 := (hSw.cell (p := ⟨c0, 0, none⟩) zc0).trans P0.out; have p1 := (hSw.cell (p := ⟨c1, 0, none⟩) zc1).trans P1.out; have p2 := (hSw.cell (p := ⟨c2, 0, none⟩) zc2).trans P2.out; have q0 := (hSw.cell (p := ⟨b, o + i * 3, none⟩) zb).trans PX.out.1; have q1 := (hSw.cell (p := ⟨b, o + i * 3 + 1, none⟩) zb).trans PX.out.2.1; have q2 := (hSw.cell (p := ⟨b, o + i * 3 + 2, none⟩) zb).trans PX.out.2.2; have r0 := (hSw.cell (p := ⟨bi, oi + i, none⟩) zbi).trans PN.out; clear hSw; go_simp; first | done | with_reducible rfl)
  try simp only [Act.put, List.setIfInBounds_toArray, List.set_cons_zero, List.set_cons_succ]
  refine wpAnyH_take (i := 7) (oi := { dst := some 14, op := Op.move (Operand.tmp 0), type := 3, pos := "sets.go:48", after := #[], guard := none }) (v := ?_) rfl (by kernel_rfl) (by kernel_rfl) (by kernel_rfl) (fun _ _ _ h => h) (Or.inl ⟨by rfl, ?_⟩) (by assumption) ?_
  rotate_left
  · (intro wq hSw; (try dsimp only at hSw); have p0 := (hSw.cell (p := ⟨c0, 0, none⟩) zc0).trans P0.out; have p1 := (hSw.cell (p := ⟨c1, 0, none⟩) zc1).trans P1.out; have p2 := (hSw.cell (p := ⟨c2, 0, none⟩) zc2).trans P2.out; have q0 := (hSw.cell (p := ⟨b, o + i * 3, none⟩) zb).trans PX.out.1; have q1 := (hSw.cell (p := ⟨b, o + i * 3 + 1, none⟩) zb).trans PX.out.2.1; have q2 := (hSw.cell (p := ⟨b, o + i * 3 + 2, none⟩) zb).trans PX.out.2.2; have r0 := (hSw.cell (p := ⟨bi, oi + i, none⟩) zbi).trans PN.out; clear hSw; go_simp; first | done | with_reducible rfl)
  try simp only [Act.put, List.setIfInBounds_toArray, List.set_cons_zero, List.set_cons_succ]
  refine wpAnyH_take (i := 8) (oi := { dst := some 15, op := Op.indexAddr 48 (Operand.tmp 13) (Operand.tmp 14), type := 0, pos := "sets.go:48", after := #[{ on := 6, ground := Ground.data }, { on := 7, ground := Ground.data }], guard := none }) (v := ?_) rfl (by kernel_rfl) (by kernel_rfl) (by kernel_rfl) (fun _ _ _ h => h) (Or.inl ⟨by rfl, ?_⟩) (by assumption) ?_
  rotate_left
  · (intro wq hSw; (try dsimp only at hSw); have p0 := (hSw.cell (p := ⟨c0, 0, none⟩) zc0).trans P0.out; have p1 := (hSw.cell (p := ⟨c1, 0, none⟩) zc1).trans P1.out; have p2 := (hSw.cell (p := ⟨c2, 0, none⟩) zc2).trans P2.out; have q0 := (hSw.cell (p := ⟨b, o + i * 3, none⟩) zb).trans PX.out.1; have q1 := (hSw.cell (p := ⟨b, o + i * 3 + 1, none⟩) zb).trans PX.out.2.1; have q2 := (hSw.cell (p := ⟨b, o + i * 3 + 2, none⟩) zb).trans PX.out.2.2; have r0 := (hSw.cell (p := ⟨bi, oi + i, none⟩) zbi).trans PN.out; clear hSw; go_simp; first | done | with_reducible rfl)
  try simp only [Act.put, List.setIfInBounds_toArray, List.set_cons_zero, List.set_cons_succ]
  refine wpAnyH_take (i := 9) (oi := { dst := some 16, op := Op.load 3 (Operand.tmp 15), type := 3, pos := "sets.go:48", after := #[{ on := 8, ground := Ground.data }], guard := none }) (v := ?_) rfl (by kernel_rfl) (by kernel_rfl) (by kernel_rfl) (fun _ _ _ h => h) (Or.inl ⟨by rfl, ?_⟩) (by assumption) ?_
  rotate_left
  · (intro wq hSw; (try dsimp only at hSw); have p0 := (hSw.cell (p := ⟨c0, 0, none⟩) zc0).trans P0.out; have p1 := (hSw.cell (p := ⟨c1, 0, none⟩) zc1).trans P1.out; have p2 := (hSw.cell (p := ⟨c2, 0, none⟩) zc2).trans P2.out; have q0 := (hSw.cell (p := ⟨b, o + i * 3, none⟩) zb).trans PX.out.1; have q1 := (hSw.cell (p := ⟨b, o + i * 3 + 1, none⟩) zb).trans PX.out.2.1; have q2 := (hSw.cell (p := ⟨b, o + i * 3 + 2, none⟩) zb).trans PX.out.2.2; have r0 := (hSw.cell (p := ⟨bi, oi + i, none⟩) zbi).trans PN.out; clear hSw; go_simp; first | done | with_reducible rfl)
  try simp only [Act.put, List.setIfInBounds_toArray, List.set_cons_zero, List.set_cons_succ]
  refine wpAnyH_ready (rs := [10]) (by kernel_rfl) (by simp) ?_
  refine AllReadyH.cons (o := { dst := some 17, op := Op.call { callee := Callee.value (Operand.tmp 7), args := #[Operand.tmp 12, Operand.tmp 16], argTypes := #[23, 3] }, type := 25, pos := "sets.go:48", after := #[{ on := 0, ground := Ground.data }, { on := 5, ground := Ground.data }, { on := 9, ground := Ground.data }], guard := none }) rfl (fun K hK => ?_) AllReadyH.nil
  go_simp
  refine (hu.out x n _ ((hHeld.cell (p := ⟨c3, 0, none⟩) zc3).trans HC3.out) ox.1 ox.2.1 ox.2.2 on).mono ?_
  rintro e v1 ⟨rfl, hq⟩
  have hq : Below v0.heap.size v0 v1 := ⟨hq.os, hq.tape, hq.output, hq.size, hq.block⟩
  have hS := hHeld.trans (hq.mono hHeld.size)
  have BC := BC.keep hq
  go_wp2_with fail
  refine hK.out _ _ hS (fun hHeld => ?_)
  clear hK K hHeld
  clear hq
  have hHeld := hS
  clear hS
  try simp only [Act.put, List.setIfInBounds_toArray, List.set_cons_zero, List.set_cons_succ]
  refine wpAnyH_take (i := 11) (oi := { dst := some 18, op := Op.extract (Operand.tmp 17) 0, type := 23, pos := "sets.go:48", after := #[{ on := 10, ground := Ground.data }], guard := none }) (v := ?_) rfl (by kernel_rfl) (by kernel_rfl) (by kernel_rfl) (fun _ _ _ h => h) (Or.inl ⟨by rfl, ?_⟩) (by assumption) ?_
  rotate_left
  · (intro wq hSw; (try dsimp only at hSw); have p0 := (hSw.cell (p := ⟨c0, 0, none⟩) zc0).trans P0.out; have p1 := (hSw.cell (p := ⟨c1, 0, none⟩) zc1).trans P1.out; have p2 := (hSw.cell (p := ⟨c2, 0, none⟩) zc2).trans P2.out; have q0 := (hSw.cell (p := ⟨b, o + i * 3, none⟩) zb).trans PX.out.1; have q1 := (hSw.cell (p := ⟨b, o + i * 3 + 1, none⟩) zb).trans PX.out.2.1; have q2 := (hSw.cell (p := ⟨b, o + i * 3 + 2, none⟩) zb).trans PX.out.2.2; have r0 := (hSw.cell (p := ⟨bi, oi + i, none⟩) zbi).trans PN.out; clear hSw; go_simp; first | done | with_reducible rfl)
  try simp only [Act.put, List.setIfInBounds_toArray, List.set_cons_zero, List.set_cons_succ]
  refine wpAnyH_take (i := 12) (oi := { dst := some 19, op := Op.extract (Operand.tmp 17) 1, type := 24, pos := "sets.go:48", after := #[{ on := 10, ground := Ground.data }], guard := none }) (v := ?_) rfl (by kernel_rfl) (by kernel_rfl) (by kernel_rfl) (fun _ _ _ h => h) (Or.inl ⟨by rfl, ?_⟩) (by assumption) ?_
  rotate_left
  · (intro wq hSw; (try dsimp only at hSw); have p0 := (hSw.cell (p := ⟨c0, 0, none⟩) zc0).trans P0.out; have p1 := (hSw.cell (p := ⟨c1, 0, none⟩) zc1).trans P1.out; have p2 := (hSw.cell (p := ⟨c2, 0, none⟩) zc2).trans P2.out; have q0 := (hSw.cell (p := ⟨b, o + i * 3, none⟩) zb).trans PX.out.1; have q1 := (hSw.cell (p := ⟨b, o + i * 3 + 1, none⟩) zb).trans PX.out.2.1; have q2 := (hSw.cell (p := ⟨b, o + i * 3 + 2, none⟩) zb).trans PX.out.2.2; have r0 := (hSw.cell (p := ⟨bi, oi + i, none⟩) zbi).trans PN.out; clear hSw; go_simp; first | done | with_reducible rfl)
  try simp only [Act.put, List.setIfInBounds_toArray, List.set_cons_zero, List.set_cons_succ]
  refine wpAnyH_ready (rs := [13]) (by kernel_rfl) (by simp) ?_
  refine AllReadyH.cons (o := { dst := none, op := Op.store 23 (Operand.tmp 5) (Operand.tmp 18), type := 0, pos := "sets.go:48", after := #[{ on := 11, ground := Ground.data }, { on := 10, ground := Ground.chain }, { on := 0, ground := Ground.phase }, { on := 1, ground := Ground.phase }, { on := 2, ground := Ground.phase }, { on := 3, ground := Ground.phase }, { on := 4, ground := Ground.phase }, { on := 5, ground := Ground.phase }, { on := 6, ground := Ground.phase }, { on := 7, ground := Ground.phase }, { on := 8, ground := Ground.phase }, { on := 9, ground := Ground.phase }, { on := 10, ground := Ground.phase }, { on := 11, ground := Ground.phase }, { on := 12, ground := Ground.phase }], guard := none }) rfl (fun K hK => ?_) AllReadyH.nil
  go_simp
  have c0 := BC.c0
  have c1 := BC.c1
  have c2 := BC.c2
  have f0 := BC.f0
  have f1 := BC.f1
  have f2 := BC.f2
  go_simp
  have hS := hHeld.trans (set3s_below (Nat.le_refl w.heap.size) (.int .i64 ((uz g) x n).1.1) (.int .i64 ((uz g) x n).1.2.1) (.int .i64 ((uz g) x n).1.2.2))
  have BC := BC.set (.int .i64 ((uz g) x n).1.1) (.int .i64 ((uz g) x n).1.2.1) (.int .i64 ((uz g) x n).1.2.2)
  refine hK.out _ _ hS (fun hHeld => ?_)
  clear hK K hHeld
  clear c0 c1 c2 f0 f1 f2
  change wpAnyH _ _ _ _ _ _ _ _ (set3 v1 w.heap.size (.int .i64 ((uz g) x n).1.1) (.int .i64 ((uz g) x n).1.2.1) (.int .i64 ((uz g) x n).1.2.2))
  generalize set3 v1 w.heap.size (.int .i64 ((uz g) x n).1.1) (.int .i64 ((uz g) x n).1.2.1) (.int .i64 ((uz g) x n).1.2.2) = v2 at *
  have hHeld := hS
  clear hS
  try simp only [Act.put, List.setIfInBounds_toArray, List.set_cons_zero, List.set_cons_succ]
  refine wpAnyH_take (i := 14) (oi := { dst := some 6, op := Op.assign (Operand.tmp 19), type := 24, pos := "sets.go:48", after := #[{ on := 12, ground := Ground.data }, { on := 13, ground := Ground.chain }, { on := 0, ground := Ground.phase }, { on := 1, ground := Ground.phase }, { on := 2, ground := Ground.phase }, { on := 3, ground := Ground.phase }, { on := 4, ground := Ground.phase }, { on := 5, ground := Ground.phase }, { on := 6, ground := Ground.phase }, { on := 7, ground := Ground.phase }, { on := 8, ground := Ground.phase }, { on := 9, ground := Ground.phase }, { on := 10, ground := Ground.phase }, { on := 11, ground := Ground.phase }, { on := 12, ground := Ground.phase }, { on := 13, ground := Ground.phase }], guard := none }) (v := ?_) rfl (by kernel_rfl) (by kernel_rfl) (by kernel_rfl) (fun _ _ _ h => h) (Or.inl ⟨by rfl, ?_⟩) (by assumption) ?_
  rotate_left
  · (intro wq hSw; (try dsimp only at hSw); have p0 := (hSw.cell (p := ⟨c0, 0, none⟩) zc0).trans P0.out; have p1 := (hSw.cell (p := ⟨c1, 0, none⟩) zc1).trans P1.out; have p2 := (hSw.cell (p := ⟨c2, 0, none⟩) zc2).trans P2.out; have q0 := (hSw.cell (p := ⟨b, o + i * 3, none⟩) zb).trans PX.out.1; have q1 := (hSw.cell (p := ⟨b, o + i * 3 + 1, none⟩) zb).trans PX.out.2.1; have q2 := (hSw.cell (p := ⟨b, o + i * 3 + 2, none⟩) zb).trans PX.out.2.2; have r0 := (hSw.cell (p := ⟨bi, oi + i, none⟩) zbi).trans PN.out; clear hSw; go_simp; first | done | with_reducible rfl)
  try simp only [Act.put, List.setIfInBounds_toArray, List.set_cons_zero, List.set_cons_succ]
  refine wpAnyH_done (by kernel_rfl) ?_ _
  have HB := Lib.hid hHeld
  have d0 := BC.c0
  have d1 := BC.c1
  have d2 := BC.c2
  clear hHeld BC
  go_wp2
  exact bodyPost_ret (v := .tuple #[.agg #[.int .i64 ((uz g) x n).1.1, .int .i64 ((uz g) x n).1.2.1, .int .i64 ((uz g) x n).1.2.2], .int .i64 ((uz g) x n).2]) (by simp [results, Try.results175, go_sem, *]) rfl ⟨_, _, _, _, rfl, HB.out, Lib.hid ⟨x, n, FX.out, FN.out, rfl, rfl⟩⟩
end Go.Proofs.Ytabgphlpdoockaa
