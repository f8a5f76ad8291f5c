/-
  Part 14: AllF, AllG, AllH.
-/
import Derived.Test.YtmelknodmbdhpaaOn5
import Derived.Test.YtmelknodmbdhpaaOn7
import Derived.Test.YtmelknodmbdhpaaOn11
import Derived.Test.YtmelknodmbdhpaaOn13
import Derived.BigQuiet
import Derived.Deep.CutBlock
import Derived.Deep.DeepCutAuto
import Derived.Deep.DrawnRows
import Derived.Deep.LoopGhost
import Derived.Deep.QuietTactic
import Derived.Deep.RegionHeld3
import Derived.Deep.RegionWith
import Derived.Lib.Hide
import Derived.WalkKit
import Derived.WalkLawsBesides
import Derived.WalkSpells
namespace Go.Proofs.Ytmelknodmbdhpaa
open Go.RowKit
/-- a slice of pairs reads as a list -/
def Rp (w : World) (v : Value) (L : List (Int × Int)) : Prop := ∃ (ao : Option Addr) (cap : Nat), v = .slice ao L.length cap ∧ (L.length = 0 ∨ ∃ b o : Nat, ao = some ⟨b, o, none⟩ ∧ b < w.heap.size ∧
  ∀ (j : Nat) (p : Int × Int), L[j]? = some p → w.cell? ⟨b, o + j * 2, none⟩ = some (.int .i64 p.1) ∧ w.cell? ⟨b, o + j * 2 + 1, none⟩ = some (.int .i64 p.2))
theorem Rp.keep {w w' : World} {v : Value} {L : List (Int × Int)} (r : Rp w v L) (hb : Below w.heap.size w w') : Rp w' v L := by
  obtain ⟨ao, cap, e, h⟩ := r
  refine ⟨ao, cap, e, h.imp id ?_⟩
  rintro ⟨b, o, e, hlt, hc⟩
  exact ⟨b, o, e, Nat.lt_of_lt_of_le hlt hb.size, fun j p hp => ⟨(hb.cell (p := ⟨b, o + j * 2, none⟩) hlt).trans (hc j p hp).1, (hb.cell (p := ⟨b, o + j * 2 + 1, none⟩) hlt).trans (hc j p hp).2⟩⟩
set_option maxRecDepth 100000 in
set_option maxHeartbeats 3200000 in
/-- IsSortedFunc says true of a list in order -/
theorem sorted_any (v : Value) (L : List (Int × Int)) (w : World) (hr : Rp w v L) (hs : Hid (∀ (i : Nat) (p q : Int × Int), L[i + 1]? = some p → L[i]? = some q → ¬ cmpL [p.1, p.2] [q.1, q.2] < 0)) (hn : L.length ≤ 1000) :
    Calls Try.prog 93 #[v, .func (.func 94) #[] #[]] w fun e w' => e = .returned (.bool true) ∧ Below w.heap.size w w' := by
  obtain ⟨ao, cp, rfl, hc⟩ := hr
  have HC := Lib.hid hc
  clear hc
  have lw : IntKind.i64.wrap ((L.length : Int) - 1) = (L.length : Int) - 1 := IntWalk.i64_in _ (by omega)
  go_enter Try.func93, Try.ntmps93
  go_wp2_with fail
  go_loopg [5] (L.length + 1) (fun gh v5 wr => ∃ i : Int, v5 = .int .i64 i ∧ (-1 ≤ i ∧ i < L.length ∧ i.toNat < gh) ∧ Hid (Below w.heap.size w wr))
  case atStart => exact ⟨_, rfl, ⟨by omega, by omega, by omega⟩, Lib.hid (Below.refl _ _)⟩
  case round =>
    obtain ⟨i, rfl, ⟨i0, i1, ig⟩, B1⟩ := hrel
    by_cases hi : 0 < i
    · obtain ⟨j, rfl⟩ : ∃ j : Nat, i = (j : Int) + 1 := ⟨(i - 1).toNat, by omega⟩
      have KG : Hid (j + 1 < gk) := Lib.hid (by omega)
      have j1 : j + 1 < L.length := by omega
      obtain ⟨pb, po, rfl, pz, pc⟩ := HC.out.resolve_left (by omega)
      have zb : pb < wr.heap.size := Nat.lt_of_lt_of_le pz B1.out.size
      obtain ⟨p, hp⟩ : ∃ p, L[j + 1]? = some p := ⟨L[j + 1], List.getElem?_eq_getElem _⟩
      obtain ⟨q, hq⟩ : ∃ q, L[j]? = some q := ⟨L[j], List.getElem?_eq_getElem _⟩
      have P0 := Lib.hid (show wr.cell? ⟨pb, po + (j + 1) * 2, none⟩ = some (.int .i64 p.1) ∧ wr.cell? ⟨pb, po + (j + 1) * 2 + 1, none⟩ = some (.int .i64 p.2) from ⟨(B1.out.cell (p := ⟨pb, po + (j + 1) * 2, none⟩) pz).trans (pc _ _ hp).1, (B1.out.cell (p := ⟨pb, po + (j + 1) * 2 + 1, none⟩) pz).trans (pc _ _ hp).2⟩)
      have Q0 := Lib.hid (show wr.cell? ⟨pb, po + j * 2, none⟩ = some (.int .i64 q.1) ∧ wr.cell? ⟨pb, po + j * 2 + 1, none⟩ = some (.int .i64 q.2) from ⟨(B1.out.cell (p := ⟨pb, po + j * 2, none⟩) pz).trans (pc _ _ hq).1, (B1.out.cell (p := ⟨pb, po + j * 2 + 1, none⟩) pz).trans (pc _ _ hq).2⟩)
      have ns : decide (cmpL [p.1, p.2] [q.1, q.2] < 0) = false := by simpa using hs.out j p q hp hq
      have jw : IntKind.i64.wrap (j : Int) = (j : Int) := IntWalk.i64_in _ (by omega)
      have j2 : (j : Int) < (L.length : Int) := by omega
      have k1 : ((j : Int) + 1).toNat = j + 1 := by omega
      have k0 : (0 : Int) ≤ (j : Int) + 1 := by omega
      have k2 : (j : Int) + 1 < (L.length : Int) := by omega
      clear hp hq pc ig
      go_upto_region 4 with fail
      refine wp_region_held_drew (S := (fun w' => Below wr.heap.size wr w')) (by kernel_rfl) (to_drew (Below.refl _ _)) (fun hHeld => ?_)
      obtain ⟨v0, hv0⟩ : ∃ v0, v0 = wr.drew := ⟨_, rfl⟩
      rw [← hv0] at hHeld ⊢
      clear hv0
      refine wpAnyH_take (i := 0) (oi := { dst := some 13, op := Op.move (Operand.tmp 1), type := 89, pos := "sort.go:55", after := #[], guard := none }) (v := ?_) rfl (by kernel_rfl) (by kernel_rfl) (by kernel_rfl) (fun _ _ _ h => h) (Or.inl ⟨by rfl, ?_⟩) (by assumption) ?_
      rotate_left
      · (intro wq hSw; (try dsimp only at hSw); have p0 := (hSw.cell (p := ⟨pb, po + (j + 1) * 2, none⟩) zb).trans P0.out.1; have p1 := (hSw.cell (p := ⟨pb, po + (j + 1) * 2 + 1, none⟩) zb).trans P0.out.2; have q0 := (hSw.cell (p := ⟨pb, po + j * 2, none⟩) zb).trans Q0.out.1; have q1 := (hSw.cell (p := ⟨pb, po + j * 2 + 1, none⟩) zb).trans Q0.out.2; clear hSw; go_simp; first | done | with_reducible rfl)
      try simp only [Act.put, List.setIfInBounds_toArray, List.set_cons_zero, List.set_cons_succ]
      refine wpAnyH_take (i := 1) (oi := { dst := some 14, op := Op.move (Operand.tmp 0), type := 83, pos := "sort.go:55", after := #[], guard := none }) (v := ?_) rfl (by kernel_rfl) (by kernel_rfl) (by kernel_rfl) (fun _ _ _ h => h) (Or.inl ⟨by rfl, ?_⟩) (by assumption) ?_
      rotate_left
      · (intro wq hSw; (try dsimp only at hSw); have p0 := (hSw.cell (p := ⟨pb, po + (j + 1) * 2, none⟩) zb).trans P0.out.1; have p1 := (hSw.cell (p := ⟨pb, po + (j + 1) * 2 + 1, none⟩) zb).trans P0.out.2; have q0 := (hSw.cell (p := ⟨pb, po + j * 2, none⟩) zb).trans Q0.out.1; have q1 := (hSw.cell (p := ⟨pb, po + j * 2 + 1, none⟩) zb).trans Q0.out.2; clear hSw; go_simp; first | done | with_reducible rfl)
      try simp only [Act.put, List.setIfInBounds_toArray, List.set_cons_zero, List.set_cons_succ]
      refine wpAnyH_take (i := 2) (oi := { dst := some 15, op := Op.move (Operand.tmp 5), type := 3, pos := "sort.go:55", after := #[], guard := none }) (v := ?_) rfl (by kernel_rfl) (by kernel_rfl) (by kernel_rfl) (fun _ _ _ h => h) (Or.inl ⟨by rfl, ?_⟩) (by assumption) ?_
      rotate_left
      · (intro wq hSw; (try dsimp only at hSw); have p0 := (hSw.cell (p := ⟨pb, po + (j + 1) * 2, none⟩) zb).trans P0.out.1; have p1 := (hSw.cell (p := ⟨pb, po + (j + 1) * 2 + 1, none⟩) zb).trans P0.out.2; have q0 := (hSw.cell (p := ⟨pb, po + j * 2, none⟩) zb).trans Q0.out.1; have q1 := (hSw.cell (p := ⟨pb, po + j * 2 + 1, none⟩) zb).trans Q0.out.2; clear hSw; go_simp; first | done | with_reducible rfl)
      try simp only [Act.put, List.setIfInBounds_toArray, List.set_cons_zero, List.set_cons_succ]
      refine wpAnyH_take (i := 3) (oi := { dst := some 16, op := Op.indexAddr 83 (Operand.tmp 14) (Operand.tmp 15), type := 0, pos := "sort.go:55", after := #[{ on := 1, ground := Ground.data }, { on := 2, ground := Ground.data }], guard := none }) (v := ?_) rfl (by kernel_rfl) (by kernel_rfl) (by kernel_rfl) (fun _ _ _ h => h) (Or.inl ⟨by rfl, ?_⟩) (by assumption) ?_
      rotate_left
      · (intro wq hSw; (try dsimp only at hSw); have p0 := (hSw.cell (p := ⟨pb, po + (j + 1) * 2, none⟩) zb).trans P0.out.1; have p1 := (hSw.cell (p := ⟨pb, po + (j + 1) * 2 + 1, none⟩) zb).trans P0.out.2; have q0 := (hSw.cell (p := ⟨pb, po + j * 2, none⟩) zb).trans Q0.out.1; have q1 := (hSw.cell (p := ⟨pb, po + j * 2 + 1, none⟩) zb).trans Q0.out.2; clear hSw; go_simp; first | done | with_reducible rfl)
      try simp only [Act.put, List.setIfInBounds_toArray, List.set_cons_zero, List.set_cons_succ]
      refine wpAnyH_take (i := 4) (oi := { dst := some 17, op := Op.load 87 (Operand.tmp 16), type := 87, pos := "sort.go:55", after := #[{ on := 3, ground := Ground.data }], guard := none }) (v := ?_) rfl (by kernel_rfl) (by kernel_rfl) (by kernel_rfl) (fun _ _ _ h => h) (Or.inl ⟨by rfl, ?_⟩) (by assumption) ?_
      rotate_left
      · (intro wq hSw; (try dsimp only at hSw); have p0 := (hSw.cell (p := ⟨pb, po + (j + 1) * 2, none⟩) zb).trans P0.out.1; have p1 := (hSw.cell (p := ⟨pb, po + (j + 1) * 2 + 1, none⟩) zb).trans P0.out.2; have q0 := (hSw.cell (p := ⟨pb, po + j * 2, none⟩) zb).trans Q0.out.1; have q1 := (hSw.cell (p := ⟨pb, po + j * 2 + 1, none⟩) zb).trans Q0.out.2; clear hSw; go_simp; first | done | with_reducible rfl)
      try simp only [Act.put, List.setIfInBounds_toArray, List.set_cons_zero, List.set_cons_succ]
      refine wpAnyH_take (i := 5) (oi := { dst := some 18, op := Op.move (Operand.tmp 0), type := 83, pos := "sort.go:55", after := #[], guard := none }) (v := ?_) rfl (by kernel_rfl) (by kernel_rfl) (by kernel_rfl) (fun _ _ _ h => h) (Or.inl ⟨by rfl, ?_⟩) (by assumption) ?_
      rotate_left
      · (intro wq hSw; (try dsimp only at hSw); have p0 := (hSw.cell (p := ⟨pb, po + (j + 1) * 2, none⟩) zb).trans P0.out.1; have p1 := (hSw.cell (p := ⟨pb, po + (j + 1) * 2 + 1, none⟩) zb).trans P0.out.2; have q0 := (hSw.cell (p := ⟨pb, po + j * 2, none⟩) zb).trans Q0.out.1; have q1 := (hSw.cell (p := ⟨pb, po + j * 2 + 1, none⟩) zb).trans Q0.out.2; clear hSw; go_simp; first | done | with_reducible rfl)
      try simp only [Act.put, List.setIfInBounds_toArray, List.set_cons_zero, List.set_cons_succ]
      refine wpAnyH_take (i := 6) (oi := { dst := some 19, op := Op.move (Operand.tmp 5), type := 3, pos := "sort.go:55", after := #[], guard := none }) (v := ?_) rfl (by kernel_rfl) (by kernel_rfl) (by kernel_rfl) (fun _ _ _ h => h) (Or.inl ⟨by rfl, ?_⟩) (by assumption) ?_
      rotate_left
      · (intro wq hSw; (try dsimp only at hSw); have p0 := (hSw.cell (p := ⟨pb, po + (j + 1) * 2, none⟩) zb).trans P0.out.1; have p1 := (hSw.cell (p := ⟨pb, po + (j + 1) * 2 + 1, none⟩) zb).trans P0.out.2; have q0 := (hSw.cell (p := ⟨pb, po + j * 2, none⟩) zb).trans Q0.out.1; have q1 := (hSw.cell (p := ⟨pb, po + j * 2 + 1, none⟩) zb).trans Q0.out.2; clear hSw; go_simp; first | done | with_reducible rfl)
      try simp only [Act.put, List.setIfInBounds_toArray, List.set_cons_zero, List.set_cons_succ]
      refine wpAnyH_take (i := 7) (oi := { dst := some 20, op := Op.binOp BinOp.sub 3 (Operand.tmp 19) (Operand.const (Value.int IntKind.i64 1)) 3, type := 3, pos := "sort.go:55", after := #[{ on := 6, ground := Ground.data }], guard := none }) (v := ?_) rfl (by kernel_rfl) (by kernel_rfl) (by kernel_rfl) (fun _ _ _ h => h) (Or.inl ⟨by rfl, ?_⟩) (by assumption) ?_
      rotate_left
      · (intro wq hSw; (try dsimp only at hSw); have p0 := (hSw.cell (p := ⟨pb, po + (j + 1) * 2, none⟩) zb).trans P0.out.1; have p1 := (hSw.cell (p := ⟨pb, po + (j + 1) * 2 + 1, none⟩) zb).trans P0.out.2; have q0 := (hSw.cell (p := ⟨pb, po + j * 2, none⟩) zb).trans Q0.out.1; have q1 := (hSw.cell (p := ⟨pb, po + j * 2 + 1, none⟩) zb).trans Q0.out.2; clear hSw; go_simp; first | done | with_reducible rfl)
      try simp only [Act.put, List.setIfInBounds_toArray, List.set_cons_zero, List.set_cons_succ]
      refine wpAnyH_take (i := 8) (oi := { dst := some 21, op := Op.indexAddr 83 (Operand.tmp 18) (Operand.tmp 20), type := 0, pos := "sort.go:55", after := #[{ on := 5, ground := Ground.data }, { on := 7, ground := Ground.data }], guard := none }) (v := ?_) rfl (by kernel_rfl) (by kernel_rfl) (by kernel_rfl) (fun _ _ _ h => h) (Or.inl ⟨by rfl, ?_⟩) (by assumption) ?_
      rotate_left
      · (intro wq hSw; (try dsimp only at hSw); have p0 := (hSw.cell (p := ⟨pb, po + (j + 1) * 2, none⟩) zb).trans P0.out.1; have p1 := (hSw.cell (p := ⟨pb, po + (j + 1) * 2 + 1, none⟩) zb).trans P0.out.2; have q0 := (hSw.cell (p := ⟨pb, po + j * 2, none⟩) zb).trans Q0.out.1; have q1 := (hSw.cell (p := ⟨pb, po + j * 2 + 1, none⟩) zb).trans Q0.out.2; clear hSw; go_simp; first | done | with_reducible rfl)
      try simp only [Act.put, List.setIfInBounds_toArray, List.set_cons_zero, List.set_cons_succ]
      refine wpAnyH_take (i := 9) (oi := { dst := some 22, op := Op.load 87 (Operand.tmp 21), type := 87, pos := "sort.go:55", after := #[{ on := 8, ground := Ground.data }], guard := none }) (v := ?_) rfl (by kernel_rfl) (by kernel_rfl) (by kernel_rfl) (fun _ _ _ h => h) (Or.inl ⟨by rfl, ?_⟩) (by assumption) ?_
      rotate_left
      · (intro wq hSw; (try dsimp only at hSw); have p0 := (hSw.cell (p := ⟨pb, po + (j + 1) * 2, none⟩) zb).trans P0.out.1; have p1 := (hSw.cell (p := ⟨pb, po + (j + 1) * 2 + 1, none⟩) zb).trans P0.out.2; have q0 := (hSw.cell (p := ⟨pb, po + j * 2, none⟩) zb).trans Q0.out.1; have q1 := (hSw.cell (p := ⟨pb, po + j * 2 + 1, none⟩) zb).trans Q0.out.2; clear hSw; go_simp; first | done | with_reducible rfl)
      try simp only [Act.put, List.setIfInBounds_toArray, List.set_cons_zero, List.set_cons_succ]
      refine wpAnyH_ready (rs := [10]) (by kernel_rfl) (by simp) ?_
      refine AllReadyH.cons (o := { dst := some 23, op := Op.call { callee := Callee.value (Operand.tmp 13), args := #[Operand.tmp 17, Operand.tmp 22], argTypes := #[87, 87] }, type := 3, pos := "sort.go:55", after := #[{ on := 0, ground := Ground.data }, { on := 4, ground := Ground.data }, { on := 9, ground := Ground.data }], guard := none }) rfl (fun K hK => ?_) AllReadyH.nil
      go_simp
      refine (ordC_any p.1 p.2 q.1 q.2 _).mono ?_
      rintro e v1 ⟨rfl, hq⟩
      have hq : Below v0.heap.size v0 v1 := ⟨hq.os, hq.tape, hq.output, hq.size, hq.block⟩
      have hS := hHeld.trans (hq.mono hHeld.size)
      go_wp2_with fail
      refine hK.out _ _ hS (fun hHeld => ?_)
      clear hK K hHeld
      clear hq
      have hHeld := hS
      clear hS
      try simp only [Act.put, List.setIfInBounds_toArray, List.set_cons_zero, List.set_cons_succ]
      refine wpAnyH_take (i := 11) (oi := { dst := some 24, op := Op.binOp BinOp.lss 3 (Operand.tmp 23) (Operand.const (Value.int IntKind.i64 0)) 3, type := 4, pos := "sort.go:55", after := #[{ on := 10, ground := Ground.data }], guard := none }) (v := ?_) rfl (by kernel_rfl) (by kernel_rfl) (by kernel_rfl) (fun _ _ _ h => h) (Or.inl ⟨by rfl, ?_⟩) (by assumption) ?_
      rotate_left
      · (intro wq hSw; (try dsimp only at hSw); have p0 := (hSw.cell (p := ⟨pb, po + (j + 1) * 2, none⟩) zb).trans P0.out.1; have p1 := (hSw.cell (p := ⟨pb, po + (j + 1) * 2 + 1, none⟩) zb).trans P0.out.2; have q0 := (hSw.cell (p := ⟨pb, po + j * 2, none⟩) zb).trans Q0.out.1; have q1 := (hSw.cell (p := ⟨pb, po + j * 2 + 1, none⟩) zb).trans Q0.out.2; clear hSw; go_simp; first | done | with_reducible rfl)
      try simp only [Act.put, List.setIfInBounds_toArray, List.set_cons_zero, List.set_cons_succ]
      refine wpAnyH_done (by kernel_rfl) ?_ _
      have B2 := Lib.hid (B1.out.trans (hHeld.mono B1.out.size))
      clear hHeld B1 P0 Q0
      go_wp2_with fail
      go_roundg (j + 1)
      case measure => exact KG.out
      case rel => exact ⟨(j : Int), by go_num, ⟨by omega, by omega, by omega⟩, B2⟩
    · clear ig
      go_wp2
      exact bodyPost_ret (v := .bool true) (by simp [results, Try.results93, go_sem, *]) rfl ⟨rfl, B1.out⟩
end Go.Proofs.Ytmelknodmbdhpaa
namespace Go.Proofs.Ytmelknodmbdhpaa
open Go.RowKit
theorem flatE_get (Y : List Int) (hY : 0 < Y.length) : ∀ (pa : List Int) (k : Nat), k < pa.length * Y.length → ∃ a b, pa[k / Y.length]? = some a ∧ Y[k % Y.length]? = some b ∧ (flatE Y pa)[k]? = some (a, b)
  | [], k, hk => absurd hk (by simp)
  | x :: pa, k, hk => by
    have e : flatE Y (x :: pa) = Y.map (fun b => (x, b)) ++ flatE Y pa := by unfold flatE; rw [List.flatMap_cons]
    by_cases c : k < Y.length
    · refine ⟨x, Y[k], ?_, ?_, ?_⟩
      · rw [Nat.div_eq_of_lt c]; rfl
      · rw [Nat.mod_eq_of_lt c]; exact List.getElem?_eq_getElem c
      · rw [e, List.getElem?_append_left (by simpa using c)]
        simp [List.getElem?_eq_getElem c]
    · have hk' : k - Y.length < pa.length * Y.length := by
        rw [List.length_cons, Nat.add_mul, Nat.one_mul] at hk; omega
      obtain ⟨a, b, h1, h2, h3⟩ := flatE_get Y hY pa (k - Y.length) hk'
      have d1 : k / Y.length = (k - Y.length) / Y.length + 1 := by
        rw [← Nat.add_div_right _ hY, Nat.sub_add_cancel (by omega)]
      have d2 : k % Y.length = (k - Y.length) % Y.length := by
        rw [← Nat.add_mod_right (k - Y.length), Nat.sub_add_cancel (by omega)]
      refine ⟨a, b, ?_, ?_, ?_⟩
      · rw [d1, List.getElem?_cons_succ]; exact h1
      · rw [d2]; exact h2
      · rw [e, List.getElem?_append_right (by simp; omega)]
        simpa using h3
theorem flatMap_one : ∀ l : List Int, l.flatMap (fun a => [(a, (0 : Int))]) = l.map (fun a => (a, (0 : Int)))
  | [] => rfl
  | x :: l => by rw [List.flatMap_cons, flatMap_one l]; rfl
theorem domE_one (x : R3) : domE [x] = (numsL x.1 x.2.1 x.2.2).map (fun a => (a, 0)) := by
  show flatE (numsL 0 0 1) (numsL x.1 x.2.1 x.2.2) = _
  have : numsL 0 0 1 = [0] := by decide
  rw [this]
  exact flatMap_one _
/-- a number at a position, and its position -/
theorem nthN_V {l h s : Int} (hk : chk l h s = 0) {k : Nat} (hn : (k : Int) < siz l h s) : nthN l h s (k : Int) = nthV l h s k := by
  have e : nthE l h s (k : Int) = 0 := by unfold nthE; rw [if_pos hk, if_pos (show 0 ≤ (k : Int) ∧ (k : Int) < siz l h s from ⟨by omega, hn⟩)]
  unfold nthN nthV
  rw [if_pos e]
theorem up_lt {l h s : Int} (hk : chk l h s = 0) (hs : ¬ s < 0) (i j : Nat) (hij : i < j) : nthV l h s i < nthV l h s j := by
  have m1 := (chk_bounds hk).2.2.2.2.2.2.1
  unfold nthV
  rw [if_neg hs, if_neg hs]
  have : (i : Int) * magA s < (j : Int) * magA s := Int.mul_lt_mul_of_pos_right (by omega) (by omega)
  omega
theorem mul_cast_div (k m : Nat) : ((k : Int) / (m : Int)) = ((k / m : Nat) : Int) := by simp
theorem mul_cast_mod (k m : Nat) : ((k : Int) % (m : Int)) = ((k % m : Nat) : Int) := by simp
/-- the index at a position -/
structure AtE (L : List R3) (kk s h : Int) (k : Nat) (p : Int × Int) : Prop where
  get : (domE L)[k]? = some p
  idx : idxL L k = [p.1, p.2].take L.length
  pos : dposB L kk s h ([p.1, p.2].take L.length) = true
  num : dposN L kk s h ([p.1, p.2].take L.length) = k
  bd1 : I64 p.1
  bd2 : I64 p.2
theorem domE_at {L : List R3} {kk s h : Int} (c : dchk L kk s h = 0) (k : Nat) (hk : (k : Int) < prodL L) : ∃ p, AtE L kk s h k p := by
  have up := (dchk_zero c).2.2
  have rk := dchk_rank c
  match L, rk, up with
  | [x], _, up =>
    have hx := up x (by simp)
    have hk' : (k : Int) < siz x.1 x.2.1 x.2.2 := hk
    have z := siz_bdn hx.1
    have e : domE [x] = (numsL x.1 x.2.1 x.2.2).map (fun a => (a, 0)) := domE_one x
    have V := nthV_in hx.1 hk'
    have bA := chk_bounds hx.1
    have g : posOk [x] ([nthV x.1 x.2.1 x.2.2 k]) 1 = true := by simp [posOk, V.1]
    have pb : dposB [x] kk s h [nthV x.1 x.2.1 x.2.2 k] = true := by rw [dposB_good c rfl]; exact g
    refine ⟨(nthV x.1 x.2.1 x.2.2 k, 0), ?_, ?_, ?_, ?_, ?_, ?_⟩
    · rw [e, List.getElem?_map, numsL_get _ _ _ k (by omega)]; rfl
    · rw [idxL_one, Int.emod_eq_of_lt (by omega) hk', nthN_V hx.1 hk']; rfl
    · exact pb
    · show dposN [x] kk s h [nthV x.1 x.2.1 x.2.2 k] = k
      rw [dposN_yes pb]
      simp [posP, V.2.1]
    · unfold I64; constructor <;> omega
    · unfold I64; constructor <;> omega
  | [x, y], _, up =>
    have hx := up x (by simp)
    have hy := up y (by simp)
    have zx := siz_bdn hx.1
    have zy := siz_bdn hy.1
    have hk' : (k : Int) < siz x.1 x.2.1 x.2.2 * siz y.1 y.2.1 y.2.2 := hk
    have my : 0 < siz y.1 y.2.1 y.2.2 := by
      rcases Int.lt_or_eq_of_le zy.1 with q | q
      · exact q
      · rw [← q, Int.mul_zero] at hk'; omega
    obtain ⟨m, hm⟩ : ∃ m : Nat, (m : Int) = siz y.1 y.2.1 y.2.2 := ⟨_, Int.toNat_of_nonneg zy.1⟩
    obtain ⟨n, hn⟩ : ∃ n : Nat, (n : Int) = siz x.1 x.2.1 x.2.2 := ⟨_, Int.toNat_of_nonneg zx.1⟩
    have ly : (numsL y.1 y.2.1 y.2.2).length = m := by rw [numsL_length]; omega
    have lx : (numsL x.1 x.2.1 x.2.2).length = n := by rw [numsL_length]; omega
    have m0 : 0 < m := by omega
    have kn : k < n * m := by rw [← hm, ← hn] at hk'; exact_mod_cast hk'
    have k1 : k / m < n := Nat.div_lt_of_lt_mul (by rw [Nat.mul_comm]; exact kn)
    have k2 : k % m < m := Nat.mod_lt _ m0
    have q1 : ((k / m : Nat) : Int) < siz x.1 x.2.1 x.2.2 := by omega
    have q2 : ((k % m : Nat) : Int) < siz y.1 y.2.1 y.2.2 := by omega
    obtain ⟨a, b, ha, hb, hab⟩ := flatE_get (numsL y.1 y.2.1 y.2.2) (by omega) (numsL x.1 x.2.1 x.2.2) k (by rw [lx, ly]; exact kn)
    rw [ly] at ha hb
    rw [numsL_get _ _ _ _ (by omega)] at ha hb
    cases ha; cases hb
    have V1 := nthV_in hx.1 q1
    have V2 := nthV_in hy.1 q2
    have bx := chk_bounds hx.1
    have by' := chk_bounds hy.1
    have g : posOk [x, y] [nthV x.1 x.2.1 x.2.2 (k / m), nthV y.1 y.2.1 y.2.2 (k % m)] 2 = true := by simp [posOk, V1.1, V2.1]
    have pb : dposB [x, y] kk s h [nthV x.1 x.2.1 x.2.2 (k / m), nthV y.1 y.2.1 y.2.2 (k % m)] = true := by rw [dposB_good c rfl]; exact g
    refine ⟨(nthV x.1 x.2.1 x.2.2 (k / m), nthV y.1 y.2.1 y.2.2 (k % m)), hab, ?_, pb, ?_, ?_, ?_⟩
    · rw [idxL_two, ← hm, ← hn, mul_cast_div, mul_cast_mod, mul_cast_mod, Nat.mod_eq_of_lt k1, nthN_V hx.1 q1, nthN_V hy.1 q2]; rfl
    · show dposN [x, y] kk s h [nthV x.1 x.2.1 x.2.2 (k / m), nthV y.1 y.2.1 y.2.2 (k % m)] = k
      rw [dposN_yes pb]
      show posP [x, y] _ 2 = _
      simp only [posP, List.getElem?_cons_zero, List.getElem?_cons_succ, Int.zero_mul, Int.zero_add, V1.2.1, V2.2.1, ← hm]
      have := Nat.div_add_mod k m
      rw [Nat.mul_comm] at this
      exact_mod_cast this
    · unfold I64; constructor <;> omega
    · unfold I64; constructor <;> omega
/-- neighbours ascend -/
theorem domE_up {L : List R3} {kk s h : Int} (c : dchk L kk s h = 0) {i : Nat} {p q : Int × Int} (hp : (domE L)[i + 1]? = some p) (hq : (domE L)[i]? = some q) : q.1 < p.1 ∨ (q.1 = p.1 ∧ q.2 < p.2) := by
  have up := (dchk_zero c).2.2
  have rk := dchk_rank c
  match L, rk, up with
  | [x], _, up =>
    have hx := up x (by simp)
    have e : domE [x] = (numsL x.1 x.2.1 x.2.2).map (fun a => (a, 0)) := domE_one x
    have lt := (List.getElem?_eq_some_iff.1 hp).1
    rw [e, List.length_map, numsL_length] at lt
    rw [e, List.getElem?_map, numsL_get _ _ _ _ (by omega)] at hp hq
    cases hp; cases hq
    exact .inl (up_lt hx.1 hx.2 _ _ (by omega))
  | [x, y], _, up =>
    have hx := up x (by simp)
    have hy := up y (by simp)
    have zy := siz_bdn hy.1
    obtain ⟨m, hm⟩ : ∃ m : Nat, m = (numsL y.1 y.2.1 y.2.2).length := ⟨_, rfl⟩
    obtain ⟨n, hn⟩ : ∃ n : Nat, n = (numsL x.1 x.2.1 x.2.2).length := ⟨_, rfl⟩
    have lt := (List.getElem?_eq_some_iff.1 hp).1
    change i + 1 < (flatE (numsL y.1 y.2.1 y.2.2) (numsL x.1 x.2.1 x.2.2)).length at lt
    rw [flatE_len, ← hm, ← hn] at lt
    have m0 : 0 < m := Nat.pos_of_ne_zero fun e => by rw [e] at lt; simp at lt
    obtain ⟨a, b, ha, hb, hab⟩ := flatE_get (numsL y.1 y.2.1 y.2.2) (by omega) (numsL x.1 x.2.1 x.2.2) (i + 1) (by rw [← hm, ← hn]; exact lt)
    obtain ⟨a', b', ha', hb', hab'⟩ := flatE_get (numsL y.1 y.2.1 y.2.2) (by omega) (numsL x.1 x.2.1 x.2.2) i (by rw [← hm, ← hn]; omega)
    have ep : some (a, b) = some p := hab.symm.trans hp
    have eq : some (a', b') = some q := hab'.symm.trans hq
    cases ep; cases eq
    rw [← hm] at ha hb ha' hb'
    have l1 := (List.getElem?_eq_some_iff.1 ha).1
    have l2 := (List.getElem?_eq_some_iff.1 hb).1
    have l3 := (List.getElem?_eq_some_iff.1 ha').1
    have l4 := (List.getElem?_eq_some_iff.1 hb').1
    rw [numsL_length] at l1 l2 l3 l4
    rw [numsL_get _ _ _ _ l1] at ha
    rw [numsL_get _ _ _ _ l2] at hb
    rw [numsL_get _ _ _ _ l3] at ha'
    rw [numsL_get _ _ _ _ l4] at hb'
    cases ha; cases hb; cases ha'; cases hb'
    have d := Nat.succ_div (a := i) (b := m)
    by_cases z : m ∣ i + 1
    · refine .inl (up_lt hx.1 hx.2 _ _ ?_)
      rw [d, if_pos z]; omega
    · have e1 : (i + 1) / m = i / m := by rw [d, if_neg z]; omega
      refine .inr ⟨by show nthV _ _ _ _ = nthV _ _ _ _; rw [e1], up_lt hy.1 hy.2 _ _ ?_⟩
      have a1 := Nat.div_add_mod (i + 1) m
      have a2 := Nat.div_add_mod i m
      rw [e1] at a1
      omega
theorem cmp_up {p q : Int × Int} (h : q.1 < p.1 ∨ (q.1 = p.1 ∧ q.2 < p.2)) : ¬ cmpL [p.1, p.2] [q.1, q.2] < 0 := by
  rcases h with h | ⟨h1, h2⟩
  · have e : cmpI p.1 q.1 = 1 := by unfold cmpI; rw [if_neg (show ¬ p.1 < q.1 by omega), if_pos h]
    simp [cmpL, e]
  · have e : cmpI p.1 q.1 = 0 := by unfold cmpI; rw [if_neg (show ¬ p.1 < q.1 by omega), if_neg (show ¬ q.1 < p.1 by omega)]
    have e2 : cmpI p.2 q.2 = 1 := by unfold cmpI; rw [if_neg (show ¬ p.2 < q.2 by omega), if_pos h2]
    simp [cmpL, e, e2]
/-- a row of pairs of the call's own reads as a list -/
theorem Rp.of_own {w : World} {base : Nat} {v : Value} {l : List (Int × Int)} (h : w.ownsRow base 87 2 v l.length (cells2 l)) : Rp w v l := by
  rcases h.2 with ⟨rfl, e⟩ | ⟨g, cap, cur, rfl, _, hg, _, _, hs, ht⟩
  · exact ⟨none, 0, by rw [e], .inl e⟩
  · refine ⟨some ⟨g, 0, none⟩, cap, rfl, .inr ⟨g, 0, rfl, (Array.getElem?_eq_some_iff.1 hg).1, fun j p hp => ?_⟩⟩
    have lt := (List.getElem?_eq_some_iff.1 hp).1
    have c2 : ∀ (l : List (Int × Int)) (j : Nat) (p : Int × Int), l[j]? = some p → (cells2 l)[j * 2]? = some (.int .i64 p.1) ∧ (cells2 l)[j * 2 + 1]? = some (.int .i64 p.2) := by
      intro l
      induction l with
      | nil => intro j p h; simp at h
      | cons x l ih =>
        intro j p h
        have e : cells2 (x :: l) = [.int .i64 x.1, .int .i64 x.2] ++ cells2 l := by unfold cells2; rw [List.flatMap_cons]
        cases j with
        | zero => simp at h; subst h; rw [e]; exact ⟨rfl, rfl⟩
        | succ j =>
          have := ih j p (by simpa using h)
          rw [e]
          refine ⟨?_, ?_⟩
          · rw [List.getElem?_append_right (by simp; omega)]; simpa [Nat.add_mul] using this.1
          · rw [List.getElem?_append_right (by simp; omega)]
            have e2 : (j + 1) * 2 + 1 - [Value.int .i64 x.1, Value.int .i64 x.2].length = j * 2 + 1 := by simp; omega
            rw [e2]; exact this.2
    have cc : ∀ i u, i < l.length * 2 → (cells2 l)[i]? = some u → w.cell? ⟨g, i, none⟩ = some u := by
      intro i u hi hu
      rw [← ht, List.getElem?_take] at hu
      rw [if_pos (by omega)] at hu
      simp [World.cell?, hg]
      simpa using hu
    have q := c2 l j p hp
    refine ⟨?_, ?_⟩
    · simpa using cc _ _ (by omega) q.1
    · simpa using cc _ _ (by omega) q.2
end Go.Proofs.Ytmelknodmbdhpaa
namespace Go.Proofs.Ytmelknodmbdhpaa
open Go.RowKit
def eqB2 (a b c d : Int) : Bool := decide (a = c ∧ b = d)
theorem eq_pairIn (a b c d : Int) (w : World) : (Op.equalIn 10000 87 (.agg #[.int .i64 a, .int .i64 b]) (.agg #[.int .i64 c, .int .i64 d])).run Try.prog w = .ok (eqB2 a b c d) w := by
  obtain ⟨i, hi⟩ : ∃ i, Try.prog.info? 3 = some i := Option.isSome_iff_exists.1 (by kernel_rfl)
  have hu : Try.prog.underlying 3 = some (.int .i64) := by kernel_rfl
  have hc : Try.prog.cellsOf 3 = 1 := by kernel_rfl
  rw [show (10000 : Nat) = 9999 + 1 from rfl, run_equalIn_array (P := Try.prog) w 9999 (t := 87) (e := 3) (n := 2) _ _ (by kernel_rfl) hi, hc]
  have q : ∀ x y : Int, (Op.equalIn 9999 3 (.int .i64 x) (.int .i64 y)).run Try.prog w = .ok (x == y) w := fun x y => run_equalIn_int w 9998 3 .i64 .i64 x y hu
  unfold eqB2
  by_cases h1 : a = c
  · by_cases h2 : b = d
    · simp [go_sem, List.range, List.range.loop, Op.eqItems, q, h1, h2]
    · simp [go_sem, List.range, List.range.loop, Op.eqItems, q, h1, h2]
  · simp [go_sem, List.range, List.range.loop, Op.eqItems, q, h1]
theorem eq_pair (a b c d : Int) (w : World) : (binOp .eql 87 (.agg #[.int .i64 a, .int .i64 b]) (.agg #[.int .i64 c, .int .i64 d])).run Try.prog w = .ok (.bool (eqB2 a b c d)) w := by
  simp [go_sem, eq_pairIn]
set_option maxRecDepth 100000 in
set_option maxHeartbeats 3200000 in
theorem equalRi_some (b1 o1 b2 o2 c1 c2 : Nat) (xs : List Int) (w : World) (z1 : b1 < w.heap.size) (z2 : b2 < w.heap.size)
    (h1 : Hid (∀ (j : Nat) (x : Int), xs[j]? = some x → w.cell? ⟨b1, o1 + j, none⟩ = some (.int .i64 x))) (h2 : Hid (∀ (j : Nat) (x : Int), xs[j]? = some x → w.cell? ⟨b2, o2 + j, none⟩ = some (.int .i64 x))) (hn : xs.length ≤ 5000) :
    Calls Try.prog 55 #[.slice (some ⟨b1, o1, none⟩) xs.length c1, .slice (some ⟨b2, o2, none⟩) xs.length c2] w fun e w' => e = .returned (.bool true) ∧ Below w.heap.size w w' := by
  go_enter Try.func55, Try.ntmps55
  go_wp2_with fail
  go_loopg [5, 13] (xs.length + 1) (fun gh _ v13 wr => ∃ k : Nat, v13 = .int .i64 k ∧ (k ≤ xs.length ∧ xs.length - k < gh) ∧ Below w.heap.size w wr)
  case atStart => exact ⟨0, rfl, ⟨by omega, by omega⟩, Below.refl _ _⟩
  case round =>
    obtain ⟨k, rfl, ⟨k0, kg⟩, hb⟩ := hrel
    have KG := Lib.hid kg
    clear kg
    have HB := Lib.hid hb
    clear hb
    by_cases hk : k < xs.length
    · obtain ⟨x, hx⟩ : ∃ x, xs[k]? = some x := ⟨xs[k], List.getElem?_eq_getElem hk⟩
      have p0 : wr.cell? ⟨b1, o1 + k, none⟩ = some (.int .i64 x) := (HB.out.cell (p := ⟨b1, o1 + k, none⟩) z1).trans (h1.out k x hx)
      have q0 : wr.cell? ⟨b2, o2 + k, none⟩ = some (.int .i64 x) := (HB.out.cell (p := ⟨b2, o2 + k, none⟩) z2).trans (h2.out k x hx)
      clear hx
      go_wp2_with fail
      go_quiet (fail)
      go_wp2
      go_roundg (xs.length - k)
      case measure => exact KG.out
      case rel => exact ⟨k + 1, by go_num, ⟨by omega, by omega⟩, HB.out.trans (below_drewN (Below.refl _ _) _)⟩
    · go_wp2
      exact bodyPost_ret (v := .bool true) (by simp [results, Try.results55, go_sem, *]) rfl ⟨rfl, HB.out⟩
theorem equalRi_any (v1 v2 : Value) (xs : List Int) (w : World) (h1 : Ri w v1 xs) (h2 : Ri w v2 xs) (hn : xs.length ≤ 5000) :
    Calls Try.prog 55 #[v1, v2] w fun e w' => e = .returned (.bool true) ∧ Below w.heap.size w w' := by
  obtain ⟨a1, c1, rfl, q1⟩ := h1
  obtain ⟨a2, c2, rfl, q2⟩ := h2
  by_cases h0 : xs.length = 0
  · rw [h0]
    exact equalI_none a1 a2 c1 c2 w
  · obtain ⟨b1, o1, rfl, z1, r1⟩ := q1.resolve_left h0
    obtain ⟨b2, o2, rfl, z2, r2⟩ := q2.resolve_left h0
    exact equalRi_some b1 o1 b2 o2 c1 c2 xs w z1 z2 (Lib.hid r1) (Lib.hid r2) hn
end Go.Proofs.Ytmelknodmbdhpaa
