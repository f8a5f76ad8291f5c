/-
  Part 5: IrP, IrL.
-/
import Derived.Test.YtcpeailodgoilaaKy3
import Derived.Test.YtcpeailodgoilaaKy4
import Derived.BigQuiet
import Derived.Deep.AppendLies
import Derived.Deep.CutBlock
import Derived.Deep.DeepCutAuto
import Derived.Deep.DeepFit
import Derived.Deep.DrawnRows
import Derived.Deep.LoopGhost
import Derived.Deep.QuietTactic
import Derived.Deep.RegionHeld3
import Derived.Deep.RegionWith
import Derived.Laws.AppendOwn
import Derived.Laws.AppendOwnNone
import Derived.Lib.Hide
import Derived.Maps.AppendAt
import Derived.OwnWalk
import Derived.WalkKit
import Derived.WalkLawsBesides
import Derived.WalkSpells
namespace Go.Proofs.Ytcpeailodgoilaa
open Go.RowKit
open Builtin in
theorem step_append_nil {w : World} {ops : Array Oper} {o : Oper} {a : Act} {K : Act → World → Prop} {Q : Exit → Act → World → Prop} {E : Prop} (hgd : o.guard = none) (s x : Operand)
    (ho : o.op = .call { callee := .builtin .append, args := #[s, x], argTypes := #[102, 102] }) (base : Nat)
    (v : Value) (n : Nat) (xs : List Value) (hs : a.eval s = v) (hown : w.ownsRow base 9 1 v n xs) (hx : a.eval x = .slice none 0 0) (h : K (a.put o.dst v) w) :
    if Region.wanted o (yielded ops a.tmps) = true then Oper.wp Try.prog o a w K Q else E := by
  have hw : Region.wanted o (yielded ops a.tmps) = true := by simp [Region.wanted, hgd]
  obtain ⟨i0, hi, _, _, _⟩ := info_parts Try.infoStr
  have hr := run_append_owned_none (P := Try.prog) (w := w) base 102 o.type 9 i0 1 Try.underlying102 hi v n xs hown
  rw [if_pos hw]
  unfold Oper.wp execOp
  simp only [ho, resolve, invoke, builtin, Sem.run_bind, Sem.run_pure, Result.andThen_ok, List.map_toArray, List.map_cons, List.map_nil, hs, hx, hr]
  exact h
theorem sl_nil_head : ∀ w, (Instr.sliceAt 102 (.slice none 0 0) none (some (.int .i64 0)) none).run Try.prog w = .ok (.slice none 0 0) w := by
  intro w
  have ht : Try.prog.underlying 102 = some (.slice (Try.prog.elem 102)) := by kernel_rfl
  rw [run_sliceAt_slice (P := Try.prog) (t := 102) (h := ht), run_slice_h (P := Try.prog) (t := 102) (ht := ht) (h0 := by omega) (h2 := by omega)]
  have e2 : (sizeOf (Try.prog.elem 102)).run Try.prog w = .ok 1 w := by kernel_rfl
  rw [e2]
  rfl
theorem sl_nil_rest : ∀ w, (Instr.sliceAt 102 (.slice none 0 0) (some (.int .i64 0)) none none).run Try.prog w = .ok (.slice none 0 0) w := by
  intro w
  have ht : Try.prog.underlying 102 = some (.slice (Try.prog.elem 102)) := by kernel_rfl
  rw [run_sliceAt_slice (P := Try.prog) (t := 102) (h := ht), run_slice_l (P := Try.prog) (t := 102) (ht := ht) (h0 := by omega) (h1 := by omega)]
  have e2 : (sizeOf (Try.prog.elem 102)).run Try.prog w = .ok 1 w := by kernel_rfl
  rw [e2]
  rfl
set_option maxRecDepth 100000 in
set_option maxHeartbeats 6400000 in
theorem rput_none (k : Bs) (w : World) :
    Calls Try.prog 190 #[.slice none 0 0, .string k] w fun e w' => ∃ v', e = .returned v' ∧ Hid (Rs w' v' [k] ∧ ∀ c, v' = .slice none 0 c → c = 0) ∧ Below w.heap.size w w' := by
  have RL : Hid (Rs w (.slice none 0 0) []) := Lib.hid ⟨_, _, rfl, Nat.le_refl _, Or.inl rfl⟩
  go_enter Try.func190, Try.ntmps190
  go_wp2_with fail
  refine (rhas_any _ [] k _ RL.out (by simp)).mono ?_
  rintro e w1 ⟨rfl, rfl⟩
  have n0 : decide (k ∈ ([] : List Bs)) = false := decide_eq_false (by simp)
  rw [n0]
  clear n0
  go_wp2_with fail
  go_loopg [5] 1 (fun gh v5 wr => v5 = .int .i64 0 ∧ 0 < gh ∧ wr = w)
  case atStart => exact ⟨rfl, by omega, rfl⟩
  case round =>
    obtain ⟨rfl, jg, rfl⟩ := hrel
    clear jg
    have hs1 := sl_nil_head
    have hs2 := sl_nil_rest
    go_upto_region 6 with fail
    refine wp_region_held_drew (S := (fun w' => Below wr.heap.size wr w')) (by kernel_rfl) (to_drewI (Below.refl _ _)) (fun hHeld => ?_)
    generalize wr.drew = v0 at *
    refine wpAnyH_take (i := 1) (oi := { dst := some 25, op := Op.move (Operand.tmp 0), type := 102, pos := "ref.go:311", after := #[], guard := none }) (v := ?_) rfl (by kernel_rfl) (by kernel_rfl) (by kernel_rfl) (fun _ _ _ h => h) (Or.inl ⟨by rfl, ?_⟩) (by assumption) ?_
    rotate_left
    · (intro wq hSw; (try dsimp only at hSw); have zz := hSw; clear zz; clear hSw; go_simp; first | done | with_reducible rfl)
    try simp only [Act.put, List.setIfInBounds_toArray, List.set_cons_zero, List.set_cons_succ]
    refine wpAnyH_take (i := 2) (oi := { dst := some 26, op := Op.move (Operand.tmp 5), type := 3, pos := "ref.go:311", after := #[], guard := none }) (v := ?_) rfl (by kernel_rfl) (by kernel_rfl) (by kernel_rfl) (fun _ _ _ h => h) (Or.inl ⟨by rfl, ?_⟩) (by assumption) ?_
    rotate_left
    · (intro wq hSw; (try dsimp only at hSw); have zz := hSw; clear zz; clear hSw; go_simp; first | done | with_reducible rfl)
    try simp only [Act.put, List.setIfInBounds_toArray, List.set_cons_zero, List.set_cons_succ]
    refine wpAnyH_take (i := 3) (oi := { dst := some 27, op := Op.slice 102 (Operand.tmp 25) none (some (Operand.tmp 26)) none, type := 102, pos := "ref.go:311", after := #[{ on := 1, ground := Ground.data }, { on := 2, ground := Ground.data }], guard := none }) (v := ?_) rfl (by kernel_rfl) (by kernel_rfl) (by kernel_rfl) (fun _ _ _ h => h) (Or.inl ⟨by rfl, ?_⟩) (by assumption) ?_
    rotate_left
    · (intro wq hSw; (try dsimp only at hSw); have zz := hSw; clear zz; clear hSw; go_simp; first | done | with_reducible rfl)
    try simp only [Act.put, List.setIfInBounds_toArray, List.set_cons_zero, List.set_cons_succ]
    refine wpAnyH_take (i := 5) (oi := { dst := some 29, op := Op.move (Operand.tmp 1), type := 9, pos := "ref.go:311", after := #[], guard := none }) (v := ?_) rfl (by kernel_rfl) (by kernel_rfl) (by kernel_rfl) (fun _ _ _ h => h) (Or.inl ⟨by rfl, ?_⟩) (by assumption) ?_
    rotate_left
    · (intro wq hSw; (try dsimp only at hSw); have zz := hSw; clear zz; clear hSw; go_simp; first | done | with_reducible rfl)
    try simp only [Act.put, List.setIfInBounds_toArray, List.set_cons_zero, List.set_cons_succ]
    refine wpAnyH_take (i := 8) (oi := { dst := some 32, op := Op.move (Operand.tmp 0), type := 102, pos := "ref.go:311", after := #[], guard := none }) (v := ?_) rfl (by kernel_rfl) (by kernel_rfl) (by kernel_rfl) (fun _ _ _ h => h) (Or.inl ⟨by rfl, ?_⟩) (by assumption) ?_
    rotate_left
    · (intro wq hSw; (try dsimp only at hSw); have zz := hSw; clear zz; clear hSw; go_simp; first | done | with_reducible rfl)
    try simp only [Act.put, List.setIfInBounds_toArray, List.set_cons_zero, List.set_cons_succ]
    refine wpAnyH_take (i := 9) (oi := { dst := some 33, op := Op.move (Operand.tmp 5), type := 3, pos := "ref.go:311", after := #[], guard := none }) (v := ?_) rfl (by kernel_rfl) (by kernel_rfl) (by kernel_rfl) (fun _ _ _ h => h) (Or.inl ⟨by rfl, ?_⟩) (by assumption) ?_
    rotate_left
    · (intro wq hSw; (try dsimp only at hSw); have zz := hSw; clear zz; clear hSw; go_simp; first | done | with_reducible rfl)
    try simp only [Act.put, List.setIfInBounds_toArray, List.set_cons_zero, List.set_cons_succ]
    refine wpAnyH_take (i := 10) (oi := { dst := some 34, op := Op.slice 102 (Operand.tmp 32) (some (Operand.tmp 33)) none none, type := 102, pos := "ref.go:311", after := #[{ on := 8, ground := Ground.data }, { on := 9, ground := Ground.data }], guard := none }) (v := ?_) rfl (by kernel_rfl) (by kernel_rfl) (by kernel_rfl) (fun _ _ _ h => h) (Or.inl ⟨by rfl, ?_⟩) (by assumption) ?_
    rotate_left
    · (intro wq hSw; (try dsimp only at hSw); have zz := hSw; clear zz; clear hSw; go_simp; first | done | with_reducible rfl)
    try simp only [Act.put, List.setIfInBounds_toArray, List.set_cons_zero, List.set_cons_succ]
    refine wpAnyH_ready (rs := [0, 6]) (by kernel_rfl) (by simp) ?_
    refine AllReadyH.cons (o := { dst := some 24, op := Op.buildSlice 102 0 #[], type := 102, pos := "ref.go:311", after := #[], guard := none }) rfl (fun K hK => ?_) ?_
    · go_simp
      have nb := i_below_new v0 (.cells #[] 9)
      have OA : (v0.alloc (.cells #[] 9)).ownsRow wr.heap.size 9 1 (.slice (some ⟨v0.heap.size, 0, none⟩) 0 0) 0 [] := World.ownsRow_lit v0 #[] 0 hHeld.size (by unfold maxLen; omega) (by simp)
      have hS := hHeld.trans (nb.mono hHeld.size)
      refine hK.out _ _ hS (fun hHeld => ?_)
      clear hK K hHeld
      clear nb
      generalize v0.alloc (.cells #[] 9) = v1 at *
      have hHeld := hS
      clear hS
      try simp only [Act.put, List.setIfInBounds_toArray, List.set_cons_zero, List.set_cons_succ]
      refine wpAnyH_ready (rs := [4, 6]) (by kernel_rfl) (by simp) ?_
      refine AllReadyH.cons (o := { dst := some 28, op := Op.call { callee := Callee.builtin Builtin.append, args := #[Operand.tmp 24, Operand.tmp 27], argTypes := #[102, 102] }, type := 102, pos := "ref.go:311", after := #[{ on := 0, ground := Ground.data }, { on := 3, ground := Ground.data }], guard := none }) rfl (fun K hK => ?_) ?_
      · refine step_append_nil rfl (.tmp 24) (.tmp 27) rfl wr.heap.size (.slice (some ⟨v0.heap.size, 0, none⟩) 0 0) 0 [] (by simp [Act.eval, Act.put]) OA (by simp [Act.eval, Act.put]) ?_
        have hS := hHeld
        refine hK.out _ _ hS (fun hHeld => ?_)
        clear hK K hHeld
        have hHeld := hS
        clear hS
        try simp only [Act.put, List.setIfInBounds_toArray, List.set_cons_zero, List.set_cons_succ]
        refine wpAnyH_ready (rs := [6]) (by kernel_rfl) (by simp) ?_
        refine AllReadyH.cons (o := { dst := some 30, op := Op.buildSlice 102 1 #[(0, Operand.tmp 29)], type := 102, pos := "ref.go:311", after := #[{ on := 5, ground := Ground.data }], guard := none }) rfl (fun K hK => ?_) AllReadyH.nil
        go_simp
        have NE : ((.slice (some ⟨v0.heap.size, 0, none⟩) 0 0) : Value).ownBlock ≠ some v1.heap.size := fun e => by have := (OA.lt _ e).2; omega
        have nb := i_below_new v1 (.cells #[.string k] 9)
        have OA := i_own_below OA nb
        have NW := cell_one_new v1 (.string k) 9
        have NL : v1.heap.size < (v1.alloc (.cells #[.string k] 9)).heap.size := by simp
        have hS := hHeld.trans (nb.mono hHeld.size)
        refine hK.out _ _ hS (fun hHeld => ?_)
        clear hK K hHeld
        clear nb
        generalize v1.alloc (.cells #[.string k] 9) = v3 at *
        have hHeld := hS
        clear hS
        try simp only [Act.put, List.setIfInBounds_toArray, List.set_cons_zero, List.set_cons_succ]
        refine wpAnyH_ready (rs := [7]) (by kernel_rfl) (by simp) ?_
        refine AllReadyH.cons (o := { dst := some 31, op := Op.call { callee := Callee.builtin Builtin.append, args := #[Operand.tmp 28, Operand.tmp 30], argTypes := #[102, 102] }, type := 102, pos := "ref.go:311", after := #[{ on := 4, ground := Ground.data }, { on := 6, ground := Ground.data }, { on := 4, ground := Ground.chain }], guard := none }) rfl (fun K hK => ?_) AllReadyH.nil
        refine step_append_str rfl (.tmp 28) (.tmp 30) rfl wr.heap.size (.slice (some ⟨v0.heap.size, 0, none⟩) 0 0) 0 [] (by simp [Act.eval, Act.put]) OA ⟨v1.heap.size, 0, none⟩ 1 1 [.string k] (by simp [Act.eval, Act.put]) rfl NW (strs_one [k]) (by omega) hHeld.size ?_
        intro av7 v4 OA2 grow2 hnil
        have hq : Below wr.heap.size v3 v4 := (Below.refl _ _).grown grow2 hHeld.size (fun g hg => (OA.lt g hg).1)
        have hS := hHeld.trans hq
        refine hK.out _ _ hS (fun hHeld => ?_)
        clear hK K hHeld
        have OA := OA2
        clear OA2 grow2 hq hnil
        have hHeld := hS
        clear hS
        try simp only [Act.put, List.setIfInBounds_toArray, List.set_cons_zero, List.set_cons_succ]
        refine wpAnyH_ready (rs := [11]) (by kernel_rfl) (by simp) ?_
        refine AllReadyH.cons (o := { dst := some 35, op := Op.call { callee := Callee.builtin Builtin.append, args := #[Operand.tmp 31, Operand.tmp 34], argTypes := #[102, 102] }, type := 102, pos := "ref.go:311", after := #[{ on := 7, ground := Ground.data }, { on := 10, ground := Ground.data }, { on := 7, ground := Ground.chain }], guard := none }) rfl (fun K hK => ?_) AllReadyH.nil
        refine step_append_nil rfl (.tmp 31) (.tmp 34) rfl wr.heap.size av7 (0 + 1) ([] ++ [.string k]) (by simp [Act.eval, Act.put]) OA (by simp [Act.eval, Act.put]) ?_
        have hS := hHeld
        refine hK.out _ _ hS (fun hHeld => ?_)
        clear hK K hHeld
        have hHeld := hS
        clear hS
        try simp only [Act.put, List.setIfInBounds_toArray, List.set_cons_zero, List.set_cons_succ]
        refine wpAnyH_take (i := 12) (oi := { dst := some 4, op := Op.assign (Operand.tmp 35), type := 102, pos := "ref.go:311", after := #[{ on := 11, ground := Ground.data }, { on := 11, ground := Ground.chain }, { on := 0, ground := Ground.phase }, { on := 1, ground := Ground.phase }, { on := 2, ground := Ground.phase }, { on := 3, ground := Ground.phase }, { on := 4, ground := Ground.phase }, { on := 5, ground := Ground.phase }, { on := 6, ground := Ground.phase }, { on := 7, ground := Ground.phase }, { on := 8, ground := Ground.phase }, { on := 9, ground := Ground.phase }, { on := 10, ground := Ground.phase }, { on := 11, ground := Ground.phase }], guard := none }) (v := ?_) rfl (by kernel_rfl) (by kernel_rfl) (by kernel_rfl) (fun _ _ _ h => h) (Or.inl ⟨by rfl, ?_⟩) (by assumption) ?_
        rotate_left
        · (intro wq hSw; (try dsimp only at hSw); have zz := hSw; clear zz; clear hSw; go_simp; first | done | with_reducible rfl)
        try simp only [Act.put, List.setIfInBounds_toArray, List.set_cons_zero, List.set_cons_succ]
        refine wpAnyH_done (by kernel_rfl) ?_ _
        have OZ : Hid (v4.ownsRow wr.heap.size 9 1 av7 [k].length ([k].map Value.string)) := Lib.hid (by simpa using OA)
        have BZ := Lib.hid hHeld
        clear hHeld OA
        obtain ⟨za, zc, rfl⟩ := i_own_slice OZ.out
        go_wp2
        exact bodyPost_ret (v := .slice za 1 zc) (by simp [results, Try.results190, go_sem, *]) rfl ⟨_, rfl, Lib.hid ⟨Rs.of_own OZ.out, fun c hc => by injection hc with h1 h2 h3; exact absurd h2 (by decide)⟩, BZ.out⟩
      refine AllReadyH.cons (o := { dst := some 30, op := Op.buildSlice 102 1 #[(0, Operand.tmp 29)], type := 102, pos := "ref.go:311", after := #[{ on := 5, ground := Ground.data }], guard := none }) rfl (fun K hK => ?_) ?_
      · go_simp
        have NE : ((.slice (some ⟨v0.heap.size, 0, none⟩) 0 0) : Value).ownBlock ≠ some v1.heap.size := fun e => by have := (OA.lt _ e).2; omega
        have nb := i_below_new v1 (.cells #[.string k] 9)
        have OA := i_own_below OA nb
        have NW := cell_one_new v1 (.string k) 9
        have NL : v1.heap.size < (v1.alloc (.cells #[.string k] 9)).heap.size := by simp
        have hS := hHeld.trans (nb.mono hHeld.size)
        refine hK.out _ _ hS (fun hHeld => ?_)
        clear hK K hHeld
        clear nb
        generalize v1.alloc (.cells #[.string k] 9) = v6 at *
        have hHeld := hS
        clear hS
        try simp only [Act.put, List.setIfInBounds_toArray, List.set_cons_zero, List.set_cons_succ]
        refine wpAnyH_ready (rs := [4]) (by kernel_rfl) (by simp) ?_
        refine AllReadyH.cons (o := { dst := some 28, op := Op.call { callee := Callee.builtin Builtin.append, args := #[Operand.tmp 24, Operand.tmp 27], argTypes := #[102, 102] }, type := 102, pos := "ref.go:311", after := #[{ on := 0, ground := Ground.data }, { on := 3, ground := Ground.data }], guard := none }) rfl (fun K hK => ?_) AllReadyH.nil
        refine step_append_nil rfl (.tmp 24) (.tmp 27) rfl wr.heap.size (.slice (some ⟨v0.heap.size, 0, none⟩) 0 0) 0 [] (by simp [Act.eval, Act.put]) OA (by simp [Act.eval, Act.put]) ?_
        have hS := hHeld
        refine hK.out _ _ hS (fun hHeld => ?_)
        clear hK K hHeld
        have hHeld := hS
        clear hS
        try simp only [Act.put, List.setIfInBounds_toArray, List.set_cons_zero, List.set_cons_succ]
        refine wpAnyH_ready (rs := [7]) (by kernel_rfl) (by simp) ?_
        refine AllReadyH.cons (o := { dst := some 31, op := Op.call { callee := Callee.builtin Builtin.append, args := #[Operand.tmp 28, Operand.tmp 30], argTypes := #[102, 102] }, type := 102, pos := "ref.go:311", after := #[{ on := 4, ground := Ground.data }, { on := 6, ground := Ground.data }, { on := 4, ground := Ground.chain }], guard := none }) rfl (fun K hK => ?_) AllReadyH.nil
        refine step_append_str rfl (.tmp 28) (.tmp 30) rfl wr.heap.size (.slice (some ⟨v0.heap.size, 0, none⟩) 0 0) 0 [] (by simp [Act.eval, Act.put]) OA ⟨v1.heap.size, 0, none⟩ 1 1 [.string k] (by simp [Act.eval, Act.put]) rfl NW (strs_one [k]) (by omega) hHeld.size ?_
        intro av7 v8 OA2 grow2 hnil
        have hq : Below wr.heap.size v6 v8 := (Below.refl _ _).grown grow2 hHeld.size (fun g hg => (OA.lt g hg).1)
        have hS := hHeld.trans hq
        refine hK.out _ _ hS (fun hHeld => ?_)
        clear hK K hHeld
        have OA := OA2
        clear OA2 grow2 hq hnil
        have hHeld := hS
        clear hS
        try simp only [Act.put, List.setIfInBounds_toArray, List.set_cons_zero, List.set_cons_succ]
        refine wpAnyH_ready (rs := [11]) (by kernel_rfl) (by simp) ?_
        refine AllReadyH.cons (o := { dst := some 35, op := Op.call { callee := Callee.builtin Builtin.append, args := #[Operand.tmp 31, Operand.tmp 34], argTypes := #[102, 102] }, type := 102, pos := "ref.go:311", after := #[{ on := 7, ground := Ground.data }, { on := 10, ground := Ground.data }, { on := 7, ground := Ground.chain }], guard := none }) rfl (fun K hK => ?_) AllReadyH.nil
        refine step_append_nil rfl (.tmp 31) (.tmp 34) rfl wr.heap.size av7 (0 + 1) ([] ++ [.string k]) (by simp [Act.eval, Act.put]) OA (by simp [Act.eval, Act.put]) ?_
        have hS := hHeld
        refine hK.out _ _ hS (fun hHeld => ?_)
        clear hK K hHeld
        have hHeld := hS
        clear hS
        try simp only [Act.put, List.setIfInBounds_toArray, List.set_cons_zero, List.set_cons_succ]
        refine wpAnyH_take (i := 12) (oi := { dst := some 4, op := Op.assign (Operand.tmp 35), type := 102, pos := "ref.go:311", after := #[{ on := 11, ground := Ground.data }, { on := 11, ground := Ground.chain }, { on := 0, ground := Ground.phase }, { on := 1, ground := Ground.phase }, { on := 2, ground := Ground.phase }, { on := 3, ground := Ground.phase }, { on := 4, ground := Ground.phase }, { on := 5, ground := Ground.phase }, { on := 6, ground := Ground.phase }, { on := 7, ground := Ground.phase }, { on := 8, ground := Ground.phase }, { on := 9, ground := Ground.phase }, { on := 10, ground := Ground.phase }, { on := 11, ground := Ground.phase }], guard := none }) (v := ?_) rfl (by kernel_rfl) (by kernel_rfl) (by kernel_rfl) (fun _ _ _ h => h) (Or.inl ⟨by rfl, ?_⟩) (by assumption) ?_
        rotate_left
        · (intro wq hSw; (try dsimp only at hSw); have zz := hSw; clear zz; clear hSw; go_simp; first | done | with_reducible rfl)
        try simp only [Act.put, List.setIfInBounds_toArray, List.set_cons_zero, List.set_cons_succ]
        refine wpAnyH_done (by kernel_rfl) ?_ _
        have OZ : Hid (v8.ownsRow wr.heap.size 9 1 av7 [k].length ([k].map Value.string)) := Lib.hid (by simpa using OA)
        have BZ := Lib.hid hHeld
        clear hHeld OA
        obtain ⟨za, zc, rfl⟩ := i_own_slice OZ.out
        go_wp2
        exact bodyPost_ret (v := .slice za 1 zc) (by simp [results, Try.results190, go_sem, *]) rfl ⟨_, rfl, Lib.hid ⟨Rs.of_own OZ.out, fun c hc => by injection hc with h1 h2 h3; exact absurd h2 (by decide)⟩, BZ.out⟩
      exact AllReadyH.nil
    refine AllReadyH.cons (o := { dst := some 30, op := Op.buildSlice 102 1 #[(0, Operand.tmp 29)], type := 102, pos := "ref.go:311", after := #[{ on := 5, ground := Ground.data }], guard := none }) rfl (fun K hK => ?_) ?_
    · go_simp
      have nb := i_below_new v0 (.cells #[.string k] 9)
      have NW := cell_one_new v0 (.string k) 9
      have NL : v0.heap.size < (v0.alloc (.cells #[.string k] 9)).heap.size := by simp
      have hS := hHeld.trans (nb.mono hHeld.size)
      refine hK.out _ _ hS (fun hHeld => ?_)
      clear hK K hHeld
      clear nb
      generalize v0.alloc (.cells #[.string k] 9) = v10 at *
      have hHeld := hS
      clear hS
      try simp only [Act.put, List.setIfInBounds_toArray, List.set_cons_zero, List.set_cons_succ]
      refine wpAnyH_ready (rs := [0]) (by kernel_rfl) (by simp) ?_
      refine AllReadyH.cons (o := { dst := some 24, op := Op.buildSlice 102 0 #[], type := 102, pos := "ref.go:311", after := #[], guard := none }) rfl (fun K hK => ?_) AllReadyH.nil
      go_simp
      have NE : (Value.slice (some ⟨v10.heap.size, 0, none⟩) 0 0).ownBlock ≠ some v0.heap.size := fun e => by have := NL; simp [Value.ownBlock] at e; omega
      have nb := i_below_new v10 (.cells #[] 9)
      have NW := cell_keep1 NW NL nb
      have NL := Nat.lt_of_lt_of_le NL nb.size
      have OA : (v10.alloc (.cells #[] 9)).ownsRow wr.heap.size 9 1 (.slice (some ⟨v10.heap.size, 0, none⟩) 0 0) 0 [] := World.ownsRow_lit v10 #[] 0 hHeld.size (by unfold maxLen; omega) (by simp)
      have hS := hHeld.trans (nb.mono hHeld.size)
      refine hK.out _ _ hS (fun hHeld => ?_)
      clear hK K hHeld
      clear nb
      generalize v10.alloc (.cells #[] 9) = v11 at *
      have hHeld := hS
      clear hS
      try simp only [Act.put, List.setIfInBounds_toArray, List.set_cons_zero, List.set_cons_succ]
      refine wpAnyH_ready (rs := [4]) (by kernel_rfl) (by simp) ?_
      refine AllReadyH.cons (o := { dst := some 28, op := Op.call { callee := Callee.builtin Builtin.append, args := #[Operand.tmp 24, Operand.tmp 27], argTypes := #[102, 102] }, type := 102, pos := "ref.go:311", after := #[{ on := 0, ground := Ground.data }, { on := 3, ground := Ground.data }], guard := none }) rfl (fun K hK => ?_) AllReadyH.nil
      refine step_append_nil rfl (.tmp 24) (.tmp 27) rfl wr.heap.size (.slice (some ⟨v10.heap.size, 0, none⟩) 0 0) 0 [] (by simp [Act.eval, Act.put]) OA (by simp [Act.eval, Act.put]) ?_
      have hS := hHeld
      refine hK.out _ _ hS (fun hHeld => ?_)
      clear hK K hHeld
      have hHeld := hS
      clear hS
      try simp only [Act.put, List.setIfInBounds_toArray, List.set_cons_zero, List.set_cons_succ]
      refine wpAnyH_ready (rs := [7]) (by kernel_rfl) (by simp) ?_
      refine AllReadyH.cons (o := { dst := some 31, op := Op.call { callee := Callee.builtin Builtin.append, args := #[Operand.tmp 28, Operand.tmp 30], argTypes := #[102, 102] }, type := 102, pos := "ref.go:311", after := #[{ on := 4, ground := Ground.data }, { on := 6, ground := Ground.data }, { on := 4, ground := Ground.chain }], guard := none }) rfl (fun K hK => ?_) AllReadyH.nil
      refine step_append_str rfl (.tmp 28) (.tmp 30) rfl wr.heap.size (.slice (some ⟨v10.heap.size, 0, none⟩) 0 0) 0 [] (by simp [Act.eval, Act.put]) OA ⟨v0.heap.size, 0, none⟩ 1 1 [.string k] (by simp [Act.eval, Act.put]) rfl NW (strs_one [k]) (by omega) hHeld.size ?_
      intro av7 v13 OA2 grow2 hnil
      have hq : Below wr.heap.size v11 v13 := (Below.refl _ _).grown grow2 hHeld.size (fun g hg => (OA.lt g hg).1)
      have hS := hHeld.trans hq
      refine hK.out _ _ hS (fun hHeld => ?_)
      clear hK K hHeld
      have OA := OA2
      clear OA2 grow2 hq hnil
      have hHeld := hS
      clear hS
      try simp only [Act.put, List.setIfInBounds_toArray, List.set_cons_zero, List.set_cons_succ]
      refine wpAnyH_ready (rs := [11]) (by kernel_rfl) (by simp) ?_
      refine AllReadyH.cons (o := { dst := some 35, op := Op.call { callee := Callee.builtin Builtin.append, args := #[Operand.tmp 31, Operand.tmp 34], argTypes := #[102, 102] }, type := 102, pos := "ref.go:311", after := #[{ on := 7, ground := Ground.data }, { on := 10, ground := Ground.data }, { on := 7, ground := Ground.chain }], guard := none }) rfl (fun K hK => ?_) AllReadyH.nil
      refine step_append_nil rfl (.tmp 31) (.tmp 34) rfl wr.heap.size av7 (0 + 1) ([] ++ [.string k]) (by simp [Act.eval, Act.put]) OA (by simp [Act.eval, Act.put]) ?_
      have hS := hHeld
      refine hK.out _ _ hS (fun hHeld => ?_)
      clear hK K hHeld
      have hHeld := hS
      clear hS
      try simp only [Act.put, List.setIfInBounds_toArray, List.set_cons_zero, List.set_cons_succ]
      refine wpAnyH_take (i := 12) (oi := { dst := some 4, op := Op.assign (Operand.tmp 35), type := 102, pos := "ref.go:311", after := #[{ on := 11, ground := Ground.data }, { on := 11, ground := Ground.chain }, { on := 0, ground := Ground.phase }, { on := 1, ground := Ground.phase }, { on := 2, ground := Ground.phase }, { on := 3, ground := Ground.phase }, { on := 4, ground := Ground.phase }, { on := 5, ground := Ground.phase }, { on := 6, ground := Ground.phase }, { on := 7, ground := Ground.phase }, { on := 8, ground := Ground.phase }, { on := 9, ground := Ground.phase }, { on := 10, ground := Ground.phase }, { on := 11, ground := Ground.phase }], guard := none }) (v := ?_) rfl (by kernel_rfl) (by kernel_rfl) (by kernel_rfl) (fun _ _ _ h => h) (Or.inl ⟨by rfl, ?_⟩) (by assumption) ?_
      rotate_left
      · (intro wq hSw; (try dsimp only at hSw); have zz := hSw; clear zz; clear hSw; go_simp; first | done | with_reducible rfl)
      try simp only [Act.put, List.setIfInBounds_toArray, List.set_cons_zero, List.set_cons_succ]
      refine wpAnyH_done (by kernel_rfl) ?_ _
      have OZ : Hid (v13.ownsRow wr.heap.size 9 1 av7 [k].length ([k].map Value.string)) := Lib.hid (by simpa using OA)
      have BZ := Lib.hid hHeld
      clear hHeld OA
      obtain ⟨za, zc, rfl⟩ := i_own_slice OZ.out
      go_wp2
      exact bodyPost_ret (v := .slice za 1 zc) (by simp [results, Try.results190, go_sem, *]) rfl ⟨_, rfl, Lib.hid ⟨Rs.of_own OZ.out, fun c hc => by injection hc with h1 h2 h3; exact absurd h2 (by decide)⟩, BZ.out⟩
    exact AllReadyH.nil
theorem sl_empty (a : Addr) (c : Nat) : ∃ (a1 a2 : Addr) (c1 c2 : Nat), (∀ w, (Instr.sliceAt 102 (.slice (some a) 0 c) none (some (.int .i64 0)) none).run Try.prog w = .ok (.slice (some a1) 0 c1) w) ∧ ∀ w, (Instr.sliceAt 102 (.slice (some a) 0 c) (some (.int .i64 0)) none none).run Try.prog w = .ok (.slice (some a2) 0 c2) w := by
  refine ⟨if c = 0 then a else a.add 0, if c = 0 then a else a.add 0, c, c, fun w => ?_, fun w => ?_⟩
  · have ht : Try.prog.underlying 102 = some (.slice (Try.prog.elem 102)) := by kernel_rfl
    rw [run_sliceAt_slice (P := Try.prog) (t := 102) (h := ht), run_slice_h (P := Try.prog) (t := 102) (ht := ht) (h0 := by omega) (h2 := by omega)]
    have e2 : (sizeOf (Try.prog.elem 102)).run Try.prog w = .ok 1 w := by kernel_rfl
    rw [e2]
    by_cases z : c = 0 <;> simp [sliced, z]
  · have ht : Try.prog.underlying 102 = some (.slice (Try.prog.elem 102)) := by kernel_rfl
    rw [run_sliceAt_slice (P := Try.prog) (t := 102) (h := ht), run_slice_l (P := Try.prog) (t := 102) (ht := ht) (h0 := by omega) (h1 := by omega)]
    have e2 : (sizeOf (Try.prog.elem 102)).run Try.prog w = .ok 1 w := by kernel_rfl
    rw [e2]
    by_cases z : c = 0 <;> simp [sliced, z]
set_option maxRecDepth 100000 in
set_option maxHeartbeats 6400000 in
theorem rput_empty (a : Addr) (cp : Nat) (k : Bs) (w : World) :
    Calls Try.prog 190 #[.slice (some a) 0 cp, .string k] w fun e w' => ∃ v', e = .returned v' ∧ Hid (Rs w' v' [k] ∧ ∀ c, v' = .slice none 0 c → c = 0) ∧ Below w.heap.size w w' := by
  have RL : Hid (Rs w (.slice (some a) 0 cp) []) := Lib.hid ⟨_, _, rfl, Nat.zero_le _, Or.inl rfl⟩
  obtain ⟨a1, a2, c1, c2, hs1, hs2⟩ := sl_empty a cp
  go_enter Try.func190, Try.ntmps190
  go_wp2_with fail
  refine (rhas_any _ [] k _ RL.out (by simp)).mono ?_
  rintro e w1 ⟨rfl, rfl⟩
  have n0 : decide (k ∈ ([] : List Bs)) = false := decide_eq_false (by simp)
  rw [n0]
  clear n0
  go_wp2_with fail
  go_loopg [5] 1 (fun gh v5 wr => v5 = .int .i64 0 ∧ 0 < gh ∧ wr = w)
  case atStart => exact ⟨rfl, by omega, rfl⟩
  case round =>
    obtain ⟨rfl, jg, rfl⟩ := hrel
    clear jg
    go_upto_region 6 with fail
    refine wp_region_held_drew (S := (fun w' => Below wr.heap.size wr w')) (by kernel_rfl) (to_drewI (Below.refl _ _)) (fun hHeld => ?_)
    generalize wr.drew = v0 at *
    refine wpAnyH_take (i := 1) (oi := { dst := some 25, op := Op.move (Operand.tmp 0), type := 102, pos := "ref.go:311", after := #[], guard := none }) (v := ?_) rfl (by kernel_rfl) (by kernel_rfl) (by kernel_rfl) (fun _ _ _ h => h) (Or.inl ⟨by rfl, ?_⟩) (by assumption) ?_
    rotate_left
    · (intro wq hSw; (try dsimp only at hSw); have zz := hSw; clear zz; clear hSw; go_simp; first | done | with_reducible rfl)
    try simp only [Act.put, List.setIfInBounds_toArray, List.set_cons_zero, List.set_cons_succ]
    refine wpAnyH_take (i := 2) (oi := { dst := some 26, op := Op.move (Operand.tmp 5), type := 3, pos := "ref.go:311", after := #[], guard := none }) (v := ?_) rfl (by kernel_rfl) (by kernel_rfl) (by kernel_rfl) (fun _ _ _ h => h) (Or.inl ⟨by rfl, ?_⟩) (by assumption) ?_
    rotate_left
    · (intro wq hSw; (try dsimp only at hSw); have zz := hSw; clear zz; clear hSw; go_simp; first | done | with_reducible rfl)
    try simp only [Act.put, List.setIfInBounds_toArray, List.set_cons_zero, List.set_cons_succ]
    refine wpAnyH_take (i := 3) (oi := { dst := some 27, op := Op.slice 102 (Operand.tmp 25) none (some (Operand.tmp 26)) none, type := 102, pos := "ref.go:311", after := #[{ on := 1, ground := Ground.data }, { on := 2, ground := Ground.data }], guard := none }) (v := ?_) rfl (by kernel_rfl) (by kernel_rfl) (by kernel_rfl) (fun _ _ _ h => h) (Or.inl ⟨by rfl, ?_⟩) (by assumption) ?_
    rotate_left
    · (intro wq hSw; (try dsimp only at hSw); have zz := hSw; clear zz; clear hSw; go_simp; first | done | with_reducible rfl)
    try simp only [Act.put, List.setIfInBounds_toArray, List.set_cons_zero, List.set_cons_succ]
    refine wpAnyH_take (i := 5) (oi := { dst := some 29, op := Op.move (Operand.tmp 1), type := 9, pos := "ref.go:311", after := #[], guard := none }) (v := ?_) rfl (by kernel_rfl) (by kernel_rfl) (by kernel_rfl) (fun _ _ _ h => h) (Or.inl ⟨by rfl, ?_⟩) (by assumption) ?_
    rotate_left
    · (intro wq hSw; (try dsimp only at hSw); have zz := hSw; clear zz; clear hSw; go_simp; first | done | with_reducible rfl)
    try simp only [Act.put, List.setIfInBounds_toArray, List.set_cons_zero, List.set_cons_succ]
    refine wpAnyH_take (i := 8) (oi := { dst := some 32, op := Op.move (Operand.tmp 0), type := 102, pos := "ref.go:311", after := #[], guard := none }) (v := ?_) rfl (by kernel_rfl) (by kernel_rfl) (by kernel_rfl) (fun _ _ _ h => h) (Or.inl ⟨by rfl, ?_⟩) (by assumption) ?_
    rotate_left
    · (intro wq hSw; (try dsimp only at hSw); have zz := hSw; clear zz; clear hSw; go_simp; first | done | with_reducible rfl)
    try simp only [Act.put, List.setIfInBounds_toArray, List.set_cons_zero, List.set_cons_succ]
    refine wpAnyH_take (i := 9) (oi := { dst := some 33, op := Op.move (Operand.tmp 5), type := 3, pos := "ref.go:311", after := #[], guard := none }) (v := ?_) rfl (by kernel_rfl) (by kernel_rfl) (by kernel_rfl) (fun _ _ _ h => h) (Or.inl ⟨by rfl, ?_⟩) (by assumption) ?_
    rotate_left
    · (intro wq hSw; (try dsimp only at hSw); have zz := hSw; clear zz; clear hSw; go_simp; first | done | with_reducible rfl)
    try simp only [Act.put, List.setIfInBounds_toArray, List.set_cons_zero, List.set_cons_succ]
    refine wpAnyH_take (i := 10) (oi := { dst := some 34, op := Op.slice 102 (Operand.tmp 32) (some (Operand.tmp 33)) none none, type := 102, pos := "ref.go:311", after := #[{ on := 8, ground := Ground.data }, { on := 9, ground := Ground.data }], guard := none }) (v := ?_) rfl (by kernel_rfl) (by kernel_rfl) (by kernel_rfl) (fun _ _ _ h => h) (Or.inl ⟨by rfl, ?_⟩) (by assumption) ?_
    rotate_left
    · (intro wq hSw; (try dsimp only at hSw); have zz := hSw; clear zz; clear hSw; go_simp; first | done | with_reducible rfl)
    try simp only [Act.put, List.setIfInBounds_toArray, List.set_cons_zero, List.set_cons_succ]
    refine wpAnyH_ready (rs := [0, 6]) (by kernel_rfl) (by simp) ?_
    refine AllReadyH.cons (o := { dst := some 24, op := Op.buildSlice 102 0 #[], type := 102, pos := "ref.go:311", after := #[], guard := none }) rfl (fun K hK => ?_) ?_
    · go_simp
      have nb := i_below_new v0 (.cells #[] 9)
      have OA : (v0.alloc (.cells #[] 9)).ownsRow wr.heap.size 9 1 (.slice (some ⟨v0.heap.size, 0, none⟩) 0 0) 0 [] := World.ownsRow_lit v0 #[] 0 hHeld.size (by unfold maxLen; omega) (by simp)
      have hS := hHeld.trans (nb.mono hHeld.size)
      refine hK.out _ _ hS (fun hHeld => ?_)
      clear hK K hHeld
      clear nb
      generalize v0.alloc (.cells #[] 9) = v1 at *
      have hHeld := hS
      clear hS
      try simp only [Act.put, List.setIfInBounds_toArray, List.set_cons_zero, List.set_cons_succ]
      refine wpAnyH_ready (rs := [4, 6]) (by kernel_rfl) (by simp) ?_
      refine AllReadyH.cons (o := { dst := some 28, op := Op.call { callee := Callee.builtin Builtin.append, args := #[Operand.tmp 24, Operand.tmp 27], argTypes := #[102, 102] }, type := 102, pos := "ref.go:311", after := #[{ on := 0, ground := Ground.data }, { on := 3, ground := Ground.data }], guard := none }) rfl (fun K hK => ?_) ?_
      · refine step_append_str rfl (.tmp 24) (.tmp 27) rfl wr.heap.size (.slice (some ⟨v0.heap.size, 0, none⟩) 0 0) 0 [] (by simp [Act.eval, Act.put]) OA a1 0 c1 [] (by simp [Act.eval, Act.put]) rfl (fun j u h => by simp at h) (by simp) (by omega) hHeld.size ?_
        intro av4 v2 OA2 grow2 hnil
        have hq : Below wr.heap.size v1 v2 := (Below.refl _ _).grown grow2 hHeld.size (fun g hg => (OA.lt g hg).1)
        have hS := hHeld.trans hq
        refine hK.out _ _ hS (fun hHeld => ?_)
        clear hK K hHeld
        have OA := OA2
        clear OA2 grow2 hq hnil
        have hHeld := hS
        clear hS
        try simp only [Act.put, List.setIfInBounds_toArray, List.set_cons_zero, List.set_cons_succ]
        refine wpAnyH_ready (rs := [6]) (by kernel_rfl) (by simp) ?_
        refine AllReadyH.cons (o := { dst := some 30, op := Op.buildSlice 102 1 #[(0, Operand.tmp 29)], type := 102, pos := "ref.go:311", after := #[{ on := 5, ground := Ground.data }], guard := none }) rfl (fun K hK => ?_) AllReadyH.nil
        go_simp
        have NE : (av4 : Value).ownBlock ≠ some v2.heap.size := fun e => by have := (OA.lt _ e).2; omega
        have nb := i_below_new v2 (.cells #[.string k] 9)
        have OA := i_own_below OA nb
        have NW := cell_one_new v2 (.string k) 9
        have NL : v2.heap.size < (v2.alloc (.cells #[.string k] 9)).heap.size := by simp
        have hS := hHeld.trans (nb.mono hHeld.size)
        refine hK.out _ _ hS (fun hHeld => ?_)
        clear hK K hHeld
        clear nb
        generalize v2.alloc (.cells #[.string k] 9) = v3 at *
        have hHeld := hS
        clear hS
        try simp only [Act.put, List.setIfInBounds_toArray, List.set_cons_zero, List.set_cons_succ]
        refine wpAnyH_ready (rs := [7]) (by kernel_rfl) (by simp) ?_
        refine AllReadyH.cons (o := { dst := some 31, op := Op.call { callee := Callee.builtin Builtin.append, args := #[Operand.tmp 28, Operand.tmp 30], argTypes := #[102, 102] }, type := 102, pos := "ref.go:311", after := #[{ on := 4, ground := Ground.data }, { on := 6, ground := Ground.data }, { on := 4, ground := Ground.chain }], guard := none }) rfl (fun K hK => ?_) AllReadyH.nil
        refine step_append_str rfl (.tmp 28) (.tmp 30) rfl wr.heap.size av4 (0 + 0) ([] ++ []) (by simp [Act.eval, Act.put]) OA ⟨v2.heap.size, 0, none⟩ 1 1 [.string k] (by simp [Act.eval, Act.put]) rfl NW (strs_one [k]) (by omega) hHeld.size ?_
        intro av7 v4 OA2 grow2 hnil
        have hq : Below wr.heap.size v3 v4 := (Below.refl _ _).grown grow2 hHeld.size (fun g hg => (OA.lt g hg).1)
        have hS := hHeld.trans hq
        refine hK.out _ _ hS (fun hHeld => ?_)
        clear hK K hHeld
        have OA := OA2
        clear OA2 grow2 hq hnil
        have hHeld := hS
        clear hS
        try simp only [Act.put, List.setIfInBounds_toArray, List.set_cons_zero, List.set_cons_succ]
        refine wpAnyH_ready (rs := [11]) (by kernel_rfl) (by simp) ?_
        refine AllReadyH.cons (o := { dst := some 35, op := Op.call { callee := Callee.builtin Builtin.append, args := #[Operand.tmp 31, Operand.tmp 34], argTypes := #[102, 102] }, type := 102, pos := "ref.go:311", after := #[{ on := 7, ground := Ground.data }, { on := 10, ground := Ground.data }, { on := 7, ground := Ground.chain }], guard := none }) rfl (fun K hK => ?_) AllReadyH.nil
        refine step_append_str rfl (.tmp 31) (.tmp 34) rfl wr.heap.size av7 ((0 + 0) + 1) (([] ++ []) ++ [.string k]) (by simp [Act.eval, Act.put]) OA a2 0 c2 [] (by simp [Act.eval, Act.put]) rfl (fun j u h => by simp at h) (by simp) (by omega) hHeld.size ?_
        intro av11 v5 OA2 grow2 hnil
        have hq : Below wr.heap.size v4 v5 := (Below.refl _ _).grown grow2 hHeld.size (fun g hg => (OA.lt g hg).1)
        have hS := hHeld.trans hq
        refine hK.out _ _ hS (fun hHeld => ?_)
        clear hK K hHeld
        have OA := OA2
        clear OA2 grow2 hq hnil
        have hHeld := hS
        clear hS
        try simp only [Act.put, List.setIfInBounds_toArray, List.set_cons_zero, List.set_cons_succ]
        refine wpAnyH_take (i := 12) (oi := { dst := some 4, op := Op.assign (Operand.tmp 35), type := 102, pos := "ref.go:311", after := #[{ on := 11, ground := Ground.data }, { on := 11, ground := Ground.chain }, { on := 0, ground := Ground.phase }, { on := 1, ground := Ground.phase }, { on := 2, ground := Ground.phase }, { on := 3, ground := Ground.phase }, { on := 4, ground := Ground.phase }, { on := 5, ground := Ground.phase }, { on := 6, ground := Ground.phase }, { on := 7, ground := Ground.phase }, { on := 8, ground := Ground.phase }, { on := 9, ground := Ground.phase }, { on := 10, ground := Ground.phase }, { on := 11, ground := Ground.phase }], guard := none }) (v := ?_) rfl (by kernel_rfl) (by kernel_rfl) (by kernel_rfl) (fun _ _ _ h => h) (Or.inl ⟨by rfl, ?_⟩) (by assumption) ?_
        rotate_left
        · (intro wq hSw; (try dsimp only at hSw); have zz := hSw; clear zz; clear hSw; go_simp; first | done | with_reducible rfl)
        try simp only [Act.put, List.setIfInBounds_toArray, List.set_cons_zero, List.set_cons_succ]
        refine wpAnyH_done (by kernel_rfl) ?_ _
        have OZ : Hid (v5.ownsRow wr.heap.size 9 1 av11 [k].length ([k].map Value.string)) := Lib.hid (by simpa using OA)
        have BZ := Lib.hid hHeld
        clear hHeld OA
        obtain ⟨za, zc, rfl⟩ := i_own_slice OZ.out
        go_wp2
        exact bodyPost_ret (v := .slice za 1 zc) (by simp [results, Try.results190, go_sem, *]) rfl ⟨_, rfl, Lib.hid ⟨Rs.of_own OZ.out, fun c hc => by injection hc with h1 h2 h3; exact absurd h2 (by decide)⟩, BZ.out⟩
      refine AllReadyH.cons (o := { dst := some 30, op := Op.buildSlice 102 1 #[(0, Operand.tmp 29)], type := 102, pos := "ref.go:311", after := #[{ on := 5, ground := Ground.data }], guard := none }) rfl (fun K hK => ?_) ?_
      · go_simp
        have NE : ((.slice (some ⟨v0.heap.size, 0, none⟩) 0 0) : Value).ownBlock ≠ some v1.heap.size := fun e => by have := (OA.lt _ e).2; omega
        have nb := i_below_new v1 (.cells #[.string k] 9)
        have OA := i_own_below OA nb
        have NW := cell_one_new v1 (.string k) 9
        have NL : v1.heap.size < (v1.alloc (.cells #[.string k] 9)).heap.size := by simp
        have hS := hHeld.trans (nb.mono hHeld.size)
        refine hK.out _ _ hS (fun hHeld => ?_)
        clear hK K hHeld
        clear nb
        generalize v1.alloc (.cells #[.string k] 9) = v6 at *
        have hHeld := hS
        clear hS
        try simp only [Act.put, List.setIfInBounds_toArray, List.set_cons_zero, List.set_cons_succ]
        refine wpAnyH_ready (rs := [4]) (by kernel_rfl) (by simp) ?_
        refine AllReadyH.cons (o := { dst := some 28, op := Op.call { callee := Callee.builtin Builtin.append, args := #[Operand.tmp 24, Operand.tmp 27], argTypes := #[102, 102] }, type := 102, pos := "ref.go:311", after := #[{ on := 0, ground := Ground.data }, { on := 3, ground := Ground.data }], guard := none }) rfl (fun K hK => ?_) AllReadyH.nil
        refine step_append_str rfl (.tmp 24) (.tmp 27) rfl wr.heap.size (.slice (some ⟨v0.heap.size, 0, none⟩) 0 0) 0 [] (by simp [Act.eval, Act.put]) OA a1 0 c1 [] (by simp [Act.eval, Act.put]) rfl (fun j u h => by simp at h) (by simp) (by omega) hHeld.size ?_
        intro av4 v7 OA2 grow2 hnil
        have hq : Below wr.heap.size v6 v7 := (Below.refl _ _).grown grow2 hHeld.size (fun g hg => (OA.lt g hg).1)
        have hS := hHeld.trans hq
        have NW := NWg NW NL NE grow2
        have NL := Nat.lt_of_lt_of_le NL grow2.size
        refine hK.out _ _ hS (fun hHeld => ?_)
        clear hK K hHeld
        have OA := OA2
        clear OA2 grow2 hq hnil
        have hHeld := hS
        clear hS
        try simp only [Act.put, List.setIfInBounds_toArray, List.set_cons_zero, List.set_cons_succ]
        refine wpAnyH_ready (rs := [7]) (by kernel_rfl) (by simp) ?_
        refine AllReadyH.cons (o := { dst := some 31, op := Op.call { callee := Callee.builtin Builtin.append, args := #[Operand.tmp 28, Operand.tmp 30], argTypes := #[102, 102] }, type := 102, pos := "ref.go:311", after := #[{ on := 4, ground := Ground.data }, { on := 6, ground := Ground.data }, { on := 4, ground := Ground.chain }], guard := none }) rfl (fun K hK => ?_) AllReadyH.nil
        refine step_append_str rfl (.tmp 28) (.tmp 30) rfl wr.heap.size av4 (0 + 0) ([] ++ []) (by simp [Act.eval, Act.put]) OA ⟨v1.heap.size, 0, none⟩ 1 1 [.string k] (by simp [Act.eval, Act.put]) rfl NW (strs_one [k]) (by omega) hHeld.size ?_
        intro av7 v8 OA2 grow2 hnil
        have hq : Below wr.heap.size v7 v8 := (Below.refl _ _).grown grow2 hHeld.size (fun g hg => (OA.lt g hg).1)
        have hS := hHeld.trans hq
        refine hK.out _ _ hS (fun hHeld => ?_)
        clear hK K hHeld
        have OA := OA2
        clear OA2 grow2 hq hnil
        have hHeld := hS
        clear hS
        try simp only [Act.put, List.setIfInBounds_toArray, List.set_cons_zero, List.set_cons_succ]
        refine wpAnyH_ready (rs := [11]) (by kernel_rfl) (by simp) ?_
        refine AllReadyH.cons (o := { dst := some 35, op := Op.call { callee := Callee.builtin Builtin.append, args := #[Operand.tmp 31, Operand.tmp 34], argTypes := #[102, 102] }, type := 102, pos := "ref.go:311", after := #[{ on := 7, ground := Ground.data }, { on := 10, ground := Ground.data }, { on := 7, ground := Ground.chain }], guard := none }) rfl (fun K hK => ?_) AllReadyH.nil
        refine step_append_str rfl (.tmp 31) (.tmp 34) rfl wr.heap.size av7 ((0 + 0) + 1) (([] ++ []) ++ [.string k]) (by simp [Act.eval, Act.put]) OA a2 0 c2 [] (by simp [Act.eval, Act.put]) rfl (fun j u h => by simp at h) (by simp) (by omega) hHeld.size ?_
        intro av11 v9 OA2 grow2 hnil
        have hq : Below wr.heap.size v8 v9 := (Below.refl _ _).grown grow2 hHeld.size (fun g hg => (OA.lt g hg).1)
        have hS := hHeld.trans hq
        refine hK.out _ _ hS (fun hHeld => ?_)
        clear hK K hHeld
        have OA := OA2
        clear OA2 grow2 hq hnil
        have hHeld := hS
        clear hS
        try simp only [Act.put, List.setIfInBounds_toArray, List.set_cons_zero, List.set_cons_succ]
        refine wpAnyH_take (i := 12) (oi := { dst := some 4, op := Op.assign (Operand.tmp 35), type := 102, pos := "ref.go:311", after := #[{ on := 11, ground := Ground.data }, { on := 11, ground := Ground.chain }, { on := 0, ground := Ground.phase }, { on := 1, ground := Ground.phase }, { on := 2, ground := Ground.phase }, { on := 3, ground := Ground.phase }, { on := 4, ground := Ground.phase }, { on := 5, ground := Ground.phase }, { on := 6, ground := Ground.phase }, { on := 7, ground := Ground.phase }, { on := 8, ground := Ground.phase }, { on := 9, ground := Ground.phase }, { on := 10, ground := Ground.phase }, { on := 11, ground := Ground.phase }], guard := none }) (v := ?_) rfl (by kernel_rfl) (by kernel_rfl) (by kernel_rfl) (fun _ _ _ h => h) (Or.inl ⟨by rfl, ?_⟩) (by assumption) ?_
        rotate_left
        · (intro wq hSw; (try dsimp only at hSw); have zz := hSw; clear zz; clear hSw; go_simp; first | done | with_reducible rfl)
        try simp only [Act.put, List.setIfInBounds_toArray, List.set_cons_zero, List.set_cons_succ]
        refine wpAnyH_done (by kernel_rfl) ?_ _
        have OZ : Hid (v9.ownsRow wr.heap.size 9 1 av11 [k].length ([k].map Value.string)) := Lib.hid (by simpa using OA)
        have BZ := Lib.hid hHeld
        clear hHeld OA
        obtain ⟨za, zc, rfl⟩ := i_own_slice OZ.out
        go_wp2
        exact bodyPost_ret (v := .slice za 1 zc) (by simp [results, Try.results190, go_sem, *]) rfl ⟨_, rfl, Lib.hid ⟨Rs.of_own OZ.out, fun c hc => by injection hc with h1 h2 h3; exact absurd h2 (by decide)⟩, BZ.out⟩
      exact AllReadyH.nil
    refine AllReadyH.cons (o := { dst := some 30, op := Op.buildSlice 102 1 #[(0, Operand.tmp 29)], type := 102, pos := "ref.go:311", after := #[{ on := 5, ground := Ground.data }], guard := none }) rfl (fun K hK => ?_) ?_
    · go_simp
      have nb := i_below_new v0 (.cells #[.string k] 9)
      have NW := cell_one_new v0 (.string k) 9
      have NL : v0.heap.size < (v0.alloc (.cells #[.string k] 9)).heap.size := by simp
      have hS := hHeld.trans (nb.mono hHeld.size)
      refine hK.out _ _ hS (fun hHeld => ?_)
      clear hK K hHeld
      clear nb
      generalize v0.alloc (.cells #[.string k] 9) = v10 at *
      have hHeld := hS
      clear hS
      try simp only [Act.put, List.setIfInBounds_toArray, List.set_cons_zero, List.set_cons_succ]
      refine wpAnyH_ready (rs := [0]) (by kernel_rfl) (by simp) ?_
      refine AllReadyH.cons (o := { dst := some 24, op := Op.buildSlice 102 0 #[], type := 102, pos := "ref.go:311", after := #[], guard := none }) rfl (fun K hK => ?_) AllReadyH.nil
      go_simp
      have NE : (Value.slice (some ⟨v10.heap.size, 0, none⟩) 0 0).ownBlock ≠ some v0.heap.size := fun e => by have := NL; simp [Value.ownBlock] at e; omega
      have nb := i_below_new v10 (.cells #[] 9)
      have NW := cell_keep1 NW NL nb
      have NL := Nat.lt_of_lt_of_le NL nb.size
      have OA : (v10.alloc (.cells #[] 9)).ownsRow wr.heap.size 9 1 (.slice (some ⟨v10.heap.size, 0, none⟩) 0 0) 0 [] := World.ownsRow_lit v10 #[] 0 hHeld.size (by unfold maxLen; omega) (by simp)
      have hS := hHeld.trans (nb.mono hHeld.size)
      refine hK.out _ _ hS (fun hHeld => ?_)
      clear hK K hHeld
      clear nb
      generalize v10.alloc (.cells #[] 9) = v11 at *
      have hHeld := hS
      clear hS
      try simp only [Act.put, List.setIfInBounds_toArray, List.set_cons_zero, List.set_cons_succ]
      refine wpAnyH_ready (rs := [4]) (by kernel_rfl) (by simp) ?_
      refine AllReadyH.cons (o := { dst := some 28, op := Op.call { callee := Callee.builtin Builtin.append, args := #[Operand.tmp 24, Operand.tmp 27], argTypes := #[102, 102] }, type := 102, pos := "ref.go:311", after := #[{ on := 0, ground := Ground.data }, { on := 3, ground := Ground.data }], guard := none }) rfl (fun K hK => ?_) AllReadyH.nil
      refine step_append_str rfl (.tmp 24) (.tmp 27) rfl wr.heap.size (.slice (some ⟨v10.heap.size, 0, none⟩) 0 0) 0 [] (by simp [Act.eval, Act.put]) OA a1 0 c1 [] (by simp [Act.eval, Act.put]) rfl (fun j u h => by simp at h) (by simp) (by omega) hHeld.size ?_
      intro av4 v12 OA2 grow2 hnil
      have hq : Below wr.heap.size v11 v12 := (Below.refl _ _).grown grow2 hHeld.size (fun g hg => (OA.lt g hg).1)
      have hS := hHeld.trans hq
      have NW := NWg NW NL NE grow2
      have NL := Nat.lt_of_lt_of_le NL grow2.size
      refine hK.out _ _ hS (fun hHeld => ?_)
      clear hK K hHeld
      have OA := OA2
      clear OA2 grow2 hq hnil
      have hHeld := hS
      clear hS
      try simp only [Act.put, List.setIfInBounds_toArray, List.set_cons_zero, List.set_cons_succ]
      refine wpAnyH_ready (rs := [7]) (by kernel_rfl) (by simp) ?_
      refine AllReadyH.cons (o := { dst := some 31, op := Op.call { callee := Callee.builtin Builtin.append, args := #[Operand.tmp 28, Operand.tmp 30], argTypes := #[102, 102] }, type := 102, pos := "ref.go:311", after := #[{ on := 4, ground := Ground.data }, { on := 6, ground := Ground.data }, { on := 4, ground := Ground.chain }], guard := none }) rfl (fun K hK => ?_) AllReadyH.nil
      refine step_append_str rfl (.tmp 28) (.tmp 30) rfl wr.heap.size av4 (0 + 0) ([] ++ []) (by simp [Act.eval, Act.put]) OA ⟨v0.heap.size, 0, none⟩ 1 1 [.string k] (by simp [Act.eval, Act.put]) rfl NW (strs_one [k]) (by omega) hHeld.size ?_
      intro av7 v13 OA2 grow2 hnil
      have hq : Below wr.heap.size v12 v13 := (Below.refl _ _).grown grow2 hHeld.size (fun g hg => (OA.lt g hg).1)
      have hS := hHeld.trans hq
      refine hK.out _ _ hS (fun hHeld => ?_)
      clear hK K hHeld
      have OA := OA2
      clear OA2 grow2 hq hnil
      have hHeld := hS
      clear hS
      try simp only [Act.put, List.setIfInBounds_toArray, List.set_cons_zero, List.set_cons_succ]
      refine wpAnyH_ready (rs := [11]) (by kernel_rfl) (by simp) ?_
      refine AllReadyH.cons (o := { dst := some 35, op := Op.call { callee := Callee.builtin Builtin.append, args := #[Operand.tmp 31, Operand.tmp 34], argTypes := #[102, 102] }, type := 102, pos := "ref.go:311", after := #[{ on := 7, ground := Ground.data }, { on := 10, ground := Ground.data }, { on := 7, ground := Ground.chain }], guard := none }) rfl (fun K hK => ?_) AllReadyH.nil
      refine step_append_str rfl (.tmp 31) (.tmp 34) rfl wr.heap.size av7 ((0 + 0) + 1) (([] ++ []) ++ [.string k]) (by simp [Act.eval, Act.put]) OA a2 0 c2 [] (by simp [Act.eval, Act.put]) rfl (fun j u h => by simp at h) (by simp) (by omega) hHeld.size ?_
      intro av11 v14 OA2 grow2 hnil
      have hq : Below wr.heap.size v13 v14 := (Below.refl _ _).grown grow2 hHeld.size (fun g hg => (OA.lt g hg).1)
      have hS := hHeld.trans hq
      refine hK.out _ _ hS (fun hHeld => ?_)
      clear hK K hHeld
      have OA := OA2
      clear OA2 grow2 hq hnil
      have hHeld := hS
      clear hS
      try simp only [Act.put, List.setIfInBounds_toArray, List.set_cons_zero, List.set_cons_succ]
      refine wpAnyH_take (i := 12) (oi := { dst := some 4, op := Op.assign (Operand.tmp 35), type := 102, pos := "ref.go:311", after := #[{ on := 11, ground := Ground.data }, { on := 11, ground := Ground.chain }, { on := 0, ground := Ground.phase }, { on := 1, ground := Ground.phase }, { on := 2, ground := Ground.phase }, { on := 3, ground := Ground.phase }, { on := 4, ground := Ground.phase }, { on := 5, ground := Ground.phase }, { on := 6, ground := Ground.phase }, { on := 7, ground := Ground.phase }, { on := 8, ground := Ground.phase }, { on := 9, ground := Ground.phase }, { on := 10, ground := Ground.phase }, { on := 11, ground := Ground.phase }], guard := none }) (v := ?_) rfl (by kernel_rfl) (by kernel_rfl) (by kernel_rfl) (fun _ _ _ h => h) (Or.inl ⟨by rfl, ?_⟩) (by assumption) ?_
      rotate_left
      · (intro wq hSw; (try dsimp only at hSw); have zz := hSw; clear zz; clear hSw; go_simp; first | done | with_reducible rfl)
      try simp only [Act.put, List.setIfInBounds_toArray, List.set_cons_zero, List.set_cons_succ]
      refine wpAnyH_done (by kernel_rfl) ?_ _
      have OZ : Hid (v14.ownsRow wr.heap.size 9 1 av11 [k].length ([k].map Value.string)) := Lib.hid (by simpa using OA)
      have BZ := Lib.hid hHeld
      clear hHeld OA
      obtain ⟨za, zc, rfl⟩ := i_own_slice OZ.out
      go_wp2
      exact bodyPost_ret (v := .slice za 1 zc) (by simp [results, Try.results190, go_sem, *]) rfl ⟨_, rfl, Lib.hid ⟨Rs.of_own OZ.out, fun c hc => by injection hc with h1 h2 h3; exact absurd h2 (by decide)⟩, BZ.out⟩
    exact AllReadyH.nil
/-- putKey of any keys, ascending -/
theorem rput_any (v : Value) (L : List Bs) (k : Bs) (w : World) (hr : Rs w v L) (hz : ∀ c, v = .slice none 0 c → c = 0) (hn : L.length ≤ 3000) (hA : Asc L) :
    Calls Try.prog 190 #[v, .string k] w fun e w' => ∃ v', e = .returned v' ∧ Hid (Rs w' v' (mg kOr L [k]) ∧ ∀ c, v' = .slice none 0 c → c = 0) ∧ Below w.heap.size w w' := by
  obtain ⟨ao, cp, rfl, hcp, h⟩ := hr
  rcases h with h0 | ⟨b, o, rfl, hlt, hc⟩
  · obtain rfl := List.eq_nil_of_length_eq_zero h0
    cases ao with
    | none =>
      obtain rfl := hz cp rfl
      have e : mg kOr [] [k] = [k] := by simp [mg, opt, kOr]
      rw [e]
      exact rput_none k w
    | some a =>
      have e : mg kOr [] [k] = [k] := by simp [mg, opt, kOr]
      rw [e]
      exact rput_empty a cp k w
  · exact rput_some b o cp L k w hlt (Lib.hid hc) hcp hn hA
end Go.Proofs.Ytcpeailodgoilaa
namespace Go.Proofs.Ytcpeailodgoilaa
open Go.RowKit
theorem ckF_zero : ∀ {p : Option Bs} {L : List Bs}, ckF p L = 0 → (∀ s ∈ L, s.size ≤ 100) ∧ Asc (p.toList ++ L)
  | p, [], _ => ⟨by simp, by cases p <;> simp [Asc]⟩
  | p, s :: l, h => by
    unfold ckF at h
    split at h
    · cases h
    · rename_i h1
      split at h
      · cases h
      · rename_i h2
        have ih := ckF_zero h
        refine ⟨fun x hx => ?_, ?_⟩
        · rcases List.mem_cons.1 hx with e | e
          · subst e; omega
          · exact ih.1 x e
        · cases p with
          | none => exact ih.2
          | some q =>
            have lt : slt q s = true := by
              simp only [Option.any_some, sle_eq] at h2
              simpa using h2
            exact List.pairwise_cons.2 ⟨asc_low ih.2 lt, ih.2⟩
theorem ckE_zero {L : List Bs} (h : ckE L = 0) : L.length ≤ 5000 ∧ (∀ s ∈ L, s.size ≤ 100) ∧ Asc L := by
  unfold ckE at h
  split at h
  · cases h
  · have := ckF_zero h
    exact ⟨by omega, this.1, this.2⟩
theorem ckF_of : ∀ {p : Option Bs} {L : List Bs}, (∀ s ∈ L, s.size ≤ 100) → Asc (p.toList ++ L) → ckF p L = 0
  | p, [], _, _ => rfl
  | p, s :: l, h, a => by
    unfold ckF
    rw [if_neg (by have := h s (by simp); omega), if_neg]
    · refine ckF_of (fun x hx => h x (List.mem_cons_of_mem _ hx)) ?_
      cases p with
      | none => exact a
      | some q => exact asc_tail a
    · cases p with
      | none => simp
      | some q =>
        simp only [Option.any_some, sle_eq]
        have := asc_head a s (by simp)
        simp [this]
theorem ckE_of {L : List Bs} (n : L.length ≤ 5000) (h : ∀ s ∈ L, s.size ≤ 100) (a : Asc L) : ckE L = 0 := by
  unfold ckE
  rw [if_neg (by omega)]
  exact ckF_of h a
theorem mg_len_le (keep : Bool → Bool → Bool) (a b : List Bs) : (mg keep a b).length ≤ a.length + b.length := by
  have ol : ∀ b x, (opt b x).length ≤ 1 := fun b x => by rw [opt_len]; split <;> omega
  fun_induction mg keep a b with
  | case1 => simp
  | case2 x a ih => have := ol (keep true false) x; simp at *; omega
  | case3 y b ih => have := ol (keep false true) y; simp at *; omega
  | case4 x a y b c ih => have := ol (keep true false) x; simp at *; omega
  | case5 x a y b c d ih => have := ol (keep false true) y; simp at *; omega
  | case6 x a y b c d ih => have := ol (keep true true) y; simp at *; omega
/-- a list of keys without an error -/
structure Kok (L : List Bs) (n : Nat) : Prop where
  len : L.length ≤ n
  size : ∀ s ∈ L, s.size ≤ 100
  asc : Asc L
theorem Kok.mg {A B : List Bs} {n m : Nat} (a : Kok A n) (b : Kok B m) (keep : Bool → Bool → Bool) : Kok (mg keep A B) (n + m) :=
  ⟨Nat.le_trans (mg_len_le keep A B) (by have := a.len; have := b.len; omega), fun s hs => (mg_sub keep A B s hs).elim (a.size s) (b.size s), mg_asc keep A B a.asc b.asc⟩
theorem Kok.ck {L : List Bs} {n : Nat} (a : Kok L n) (h : n ≤ 5000) : ckE L = 0 := ckE_of (by have := a.len; omega) a.size a.asc
theorem Kok.one {k : Bs} (h : k.size ≤ 100) : Kok [k] 1 := ⟨by simp, by simpa using h, asc_one k⟩
/-- what is kept of the law's arguments -/
structure Al (w : World) (va vb : Value) (A B : List Bs) (wr : World) : Prop where
  below : Below w.heap.size w wr
  a : Rs wr va A
  b : Rs wr vb B
theorem Al.keep {w : World} {va vb : Value} {A B : List Bs} {wx wy : World} (t : Al w va vb A B wx) (hb : Below wx.heap.size wx wy) : Al w va vb A B wy := ⟨t.below.trans (hb.mono t.below.size), t.a.keep hb, t.b.keep hb⟩
/-- the four results, too -/
structure Al4 (w : World) (va vb : Value) (A B : List Bs) (jv mv lv ov : Value) (wr : World) : Prop where
  t : Al w va vb A B wr
  j : Rs wr jv (mg kOr A B)
  m : Rs wr mv (mg kAnd A B)
  l : Rs wr lv (mg kLess A B)
  o : Rs wr ov (mg kOdd A B)
theorem Al4.keep {w : World} {va vb : Value} {A B : List Bs} {jv mv lv ov : Value} {wx wy : World} (t : Al4 w va vb A B jv mv lv ov wx) (hb : Below wx.heap.size wx wy) : Al4 w va vb A B jv mv lv ov wy :=
  ⟨t.t.keep hb, t.j.keep hb, t.m.keep hb, t.l.keep hb, t.o.keep hb⟩
end Go.Proofs.Ytcpeailodgoilaa
