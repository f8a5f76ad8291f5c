/-
  Part 9: DomI, DomJ, DomK.
-/
import Derived.Test.YtmelknodmbdhpaaOn8
import Derived.BigQuiet
import Derived.Deep.AppendLies
import Derived.Deep.CutBlock
import Derived.Deep.DeepCutAuto
import Derived.Deep.DrawnRows
import Derived.Deep.LoopGhost
import Derived.Deep.QuietTactic
import Derived.Deep.RegionHeld3
import Derived.Deep.RegionWith
import Derived.Laws.AppendOwnNone
import Derived.Lib.AppendZeros
import Derived.Lib.AppendZerosOnto
import Derived.Lib.Hide
import Derived.Lib.LazyBuf
import Derived.WalkKit
import Derived.WalkLawsBesides
import Derived.WalkSpells
namespace Go.Proofs.Ytmelknodmbdhpaa
open Go.RowKit
theorem At3.news : ∀ {X : List R3} {w : World} {b o : Nat}, At3 w b o X → ∀ (j : Nat) (u : Value), (cells3 X)[j]? = some u → w.cell? ((⟨b, o, none⟩ : Addr).add j) = some u
  | [], w, b, o, _, j, u, hu => by simp [cells3] at hu
  | (x0, x1, x2) :: X, w, b, o, h, j, u, hu => by
    have h0 := h 0 (x0, x1, x2) rfl
    have ht : At3 w b (o + 3) X := fun k y hy => by
      have := h (k + 1) y (by simpa using hy)
      have e : o + (k + 1) * 3 = o + 3 + k * 3 := by omega
      rw [e] at this; exact this
    match j, hu with
    | 0, hu => simp [cells3] at hu; subst hu; simpa [Addr.add] using h0.1
    | 1, hu => simp [cells3] at hu; subst hu; simpa [Addr.add] using h0.2.1
    | 2, hu => simp [cells3] at hu; subst hu; simpa [Addr.add] using h0.2.2
    | j + 3, hu =>
      have hu' : (cells3 X)[j]? = some u := by simpa [cells3] using hu
      have := At3.news ht j u hu'
      have e : o + (j + 3) = o + 3 + j := by omega
      by_cases j0 : j = 0 <;> simpa [Addr.add, j0, e] using this
/-- a slice at an address reads as a list -/
def Src (w : World) (v : Value) (X : List R3) : Prop := ∃ b o cap : Nat, v = .slice (some ⟨b, o, none⟩) X.length cap ∧ b < w.heap.size ∧ At3 w b o X
theorem Src.keep {w w' : World} {v : Value} {X : List R3} (h : Src w v X) (hb : Below w.heap.size w w') : Src w' v X := by
  obtain ⟨b, o, cap, e, hlt, hc⟩ := h
  exact ⟨b, o, cap, e, Nat.lt_of_lt_of_le hlt hb.size, hc.under hb hlt⟩
/-- what a function returns that makes a slice of ranges of its own -/
def RowRet (X : List R3) (w : World) : Ending → World → Prop := fun e w' => ∃ v, e = .returned v ∧ Hid (w'.ownsRow w.heap.size 23 3 v X.length (cells3 X)) ∧ Below w.heap.size w w'
set_option maxRecDepth 100000 in
set_option maxHeartbeats 3200000 in
theorem cloneR_any (b o cap : Nat) (X : List R3) (w : World) (hb : b < w.heap.size) (hc : Hid (At3 w b o X)) (hn : X.length ≤ 1000) :
    Calls Try.prog 177 #[.slice (some ⟨b, o, none⟩) X.length cap] w (RowRet X w) := by
  obtain ⟨i0, hi, hz0, hz1, hz2⟩ := info_parts Try.infoRange
  go_enter Try.func177, Try.ntmps177
  have en := run_eql_slice_nil (P := Try.prog) w 40 23 (some ⟨b, o, none⟩) X.length cap Try.underlying40
  have own0 : Hid ((w.alloc (.cells #[] 23)).ownsRow w.heap.size 23 3 (.slice (some ⟨w.heap.size, 0, none⟩) 0 0) 0 []) := Lib.hid (World.ownsRow_made w #[] 0 (Nat.le_refl _) (by unfold maxLen; omega) rfl)
  have nw := Lib.hid (hc.out.under (below_new w (.cells #[] 23)) hb).news
  go_upto_region 3 with fail
  go_wp2_with (first | (at_builtin; refine wpList_append_own _ rfl (.tmp 5) (.tmp 6) 40 rfl w.heap.size 23 i0 (.agg #[.int .i64 0, .int .i64 0, .int .i64 0]) 3 24 Try.underlying40 hi hz0 hz1 hz2 rfl (by decide) _ _ _ rfl own0.out ⟨b, o, none⟩ X.length cap (cells3 X) rfl (cells3_length X) nw.out (cells3_one X) (by unfold maxLen; omega) (by omega) (by simp) ?_))
  intro v' w1 own' grow' _
  have O' : Hid (w1.ownsRow w.heap.size 23 3 v' X.length (cells3 X)) := Lib.hid (by simpa using own')
  have B' : Hid (Below w.heap.size w w1) := Lib.hid ((below_new w (.cells #[] 23)).trans ((Below.refl _ _).grown grow' (by simp) (fun k' e' => (own0.out.lt k' e').1)))
  clear own' grow'
  go_wp2
  exact bodyPost_ret (v := v') (by simp [results, Try.results177, go_sem, *]) rfl ⟨_, rfl, O', B'.out⟩
set_option maxRecDepth 100000 in
set_option maxHeartbeats 3200000 in
theorem growR_any (n : Nat) (w : World) (hn : n ≤ 5000) :
    Calls Try.prog 178 #[.slice none 0 0, .int .i64 n] w fun e w' => ∃ v, e = .returned v ∧ Hid (w'.ownsRow w.heap.size 23 3 v 0 []) ∧ Below w.heap.size w w' := by
  obtain ⟨i0, hi, hz0, hz1, hz2⟩ := info_parts Try.infoRange
  by_cases n0 : n = 0
  · subst n0
    go_enter Try.func178, Try.ntmps178
    go_wp2
    exact bodyPost_ret (v := .slice none 0 0) (by simp [results, Try.results178, go_sem, *]) rfl ⟨_, rfl, World.ownsRow_nil _ _ _ _, Below.refl _ _⟩
  · have hrz : ∀ ty, (Builtin.append_ #[40, 3] ty #[.slice none 0 0, .int .i64 (n : Int)]).run Try.prog w =
        .ok (.slice (some ⟨w.heap.size, 0, none⟩) n (grownCap w n 0 23)) (w.drew.alloc (.cells (#[] ++ Builtin.zeroCells (Value.agg #[.int .i64 0, .int .i64 0, .int .i64 0]).cells n ++ Builtin.zeroCells (Value.agg #[.int .i64 0, .int .i64 0, .int .i64 0]).cells (grownCap w n 0 23 - n)) 23)) := fun ty => by
      have h := Lib.run_append_grow_zeros (P := Try.prog) w 40 3 ty 23 i0 (.agg #[.int .i64 0, .int .i64 0, .int .i64 0]) .i64 .i64 Try.underlying40 Try.underlying3 hi hz0 none 0 0 [] (by rw [hz1]; exact run_firstCells_none w.drew 3 0 0 0) n (by omega) (by omega) (by omega) (by omega) (by rw [hz2]; omega) (by rw [hz2]; exact growslice_fits (by omega) (by omega))
      simpa using h
    have hG := grownCap_ge w n 0 23
    have hG2 := grownCap_le_maxLen w n 0 23 (by unfold maxLen; omega)
    generalize grownCap w n 0 23 = G at hrz hG hG2
    have g63 : G ≤ 9223372036854775807 := by unfold maxLen at hG2; omega
    have own : Hid ((w.alloc (.cells (Builtin.zeroCells #[Value.int .i64 0, Value.int .i64 0, Value.int .i64 0] n ++ Builtin.zeroCells #[Value.int .i64 0, Value.int .i64 0, Value.int .i64 0] (G - n)) 23)).drew.ownsRow w.heap.size 23 3 (.slice (some ⟨w.heap.size, 0, none⟩) 0 G) 0 []) := Lib.hid (World.ownsRow_made w _ G (Nat.le_refl _) hG2 (by simp [size_zeroCells]; omega))
    have bel : Hid (Below w.heap.size w (w.alloc (.cells (Builtin.zeroCells #[Value.int .i64 0, Value.int .i64 0, Value.int .i64 0] n ++ Builtin.zeroCells #[Value.int .i64 0, Value.int .i64 0, Value.int .i64 0] (G - n)) 23)).drew) := Lib.hid ((Below.refl _ w).alloc (Nat.le_refl _) _).drew
    have n1 : ¬ ((n : Int) < 0) := by omega
    have n2 : (0 : Int) < n := by omega
    have n3 : 0 < n := by omega
    go_enter Try.func178, Try.ntmps178
    go_wp2_with (at_builtin; refine Lib.wpList_append_run _ rfl _ _ _ _ rfl _ _ rfl rfl _ _ (hrz _) ?_)
    exact bodyPost_ret (v := .slice (some ⟨w.heap.size, 0, none⟩) 0 G) (by simp [results, Try.results178, go_sem, *]) rfl ⟨_, rfl, own, bel.out⟩
/-- the list that Concat has gathered behind k lists -/
def catL (LS : List (List R3)) (k : Nat) : List R3 := (LS.take k).flatten
theorem catL_succ {LS : List (List R3)} {k : Nat} {X : List R3} (h : LS[k]? = some X) : catL LS (k + 1) = catL LS k ++ X := by
  unfold catL; rw [List.take_add_one, List.flatten_append, h]; simp
theorem catL_le (LS : List (List R3)) (k : Nat) : (catL LS k).length ≤ LS.flatten.length := by
  unfold catL
  have : (LS.take k ++ LS.drop k).flatten = LS.flatten := by rw [List.take_append_drop]
  rw [← this, List.flatten_append, List.length_append]; omega
set_option maxRecDepth 100000 in
set_option maxHeartbeats 6400000 in
theorem concatR_any (g o cap : Nat) (LS : List (List R3)) (w : World) (hg : g < w.heap.size) (hs : Hid (∀ (k : Nat) (X : List R3), LS[k]? = some X → ∃ v, w.cell? ⟨g, o + k, none⟩ = some v ∧ Src w v X)) (hn : LS.length ≤ 1000) (hx : LS.flatten.length ≤ 1000) :
    Calls Try.prog 154 #[.slice (some ⟨g, o, none⟩) LS.length cap] w (RowRet LS.flatten w) := by
  obtain ⟨i0, hi, hz0, hz1, hz2⟩ := info_parts Try.infoRange
  obtain ⟨N, hN⟩ : ∃ N, Hid (LS.flatten.length = N) := ⟨_, Lib.hid rfl⟩
  rw [hN.out] at hx
  go_enter Try.func154, Try.ntmps154
  go_upto_block 0 with fail
  go_cut [3] (fun s3 wx => s3 = .int .i64 (N : Nat) ∧ wx = w)
  case first =>
    go_wp2_with fail
    go_loopg [3, 5, 11] (LS.length + 1) (fun gh v3 _ v11 wr => ∃ k : Nat, v11 = .int .i64 k ∧ (k ≤ LS.length ∧ LS.length - k < gh) ∧ v3 = .int .i64 ((catL LS k).length : Nat) ∧ wr = w)
    case atStart => exact ⟨0, rfl, ⟨by omega, by omega⟩, rfl, rfl⟩
    case round =>
      obtain ⟨k, rfl, ⟨k0, kg⟩, rfl, rfl⟩ := hrel
      have KG := Lib.hid kg
      clear kg
      by_cases hk : k < LS.length
      · obtain ⟨X, hX⟩ : ∃ X, LS[k]? = some X := ⟨LS[k], List.getElem?_eq_getElem hk⟩
        obtain ⟨v, hv, b, ob, cp, rfl, hb, hc⟩ := hs.out k X hX
        have e1 : Hid ((catL LS (k + 1)).length = (catL LS k).length + X.length) := Lib.hid (by rw [catL_succ hX, List.length_append])
        have le1 := catL_le LS (k + 1)
        rw [hN.out] at le1
        have j1 : IntKind.i64.wrap (((catL LS k).length : Int) + (X.length : Int)) = ((catL LS k).length : Int) + (X.length : Int) := IntWalk.i64_in _ (by have := e1.out; omega)
        have j2 : IntKind.i64.wrap ((k : Int) + 1) = (k : Int) + 1 := IntWalk.i64_in _ (by omega)
        have j3 : ¬ (((catL LS k).length : Int) + (X.length : Int) < 0) := by omega
        clear hX hc le1
        go_wp2_with fail
        go_roundg (LS.length - k)
        case measure => exact KG.out
        case rel => exact ⟨k + 1, by push_cast; rfl, ⟨by omega, by omega⟩, by rw [e1.out]; push_cast; rfl, rfl⟩
      · obtain rfl : k = LS.length := by omega
        go_wp2_with fail
        go_meet
        exact ⟨by rw [← hN.out]; simp [catL], rfl⟩
  case rest =>
    obtain ⟨rfl, rfl⟩ := hcut
    go_wp2_with fail
    refine (growR_any _ _ (by omega)).mono ?_
    rintro e w2 ⟨v0, rfl, ho, hb2⟩
    have HB2 := Lib.hid hb2
    clear hb2
    go_upto_block 2 with fail
    go_cut [6] (fun s6 wx => Hid (wx.ownsRow wc.heap.size 23 3 s6 N (cells3 LS.flatten)) ∧ Hid (Below wc.heap.size wc wx))
    case first =>
      go_wp2_with fail
      go_loopg [6, 8, 27] (LS.length + 1) (fun gh v6 _ v27 wr => ∃ k : Nat, v27 = .int .i64 k ∧ (k ≤ LS.length ∧ LS.length - k < gh) ∧ Hid (wr.ownsRow wc.heap.size 23 3 v6 (catL LS k).length (cells3 (catL LS k))) ∧ Hid (Below wc.heap.size wc wr))
      case atStart => exact ⟨0, rfl, ⟨by omega, by omega⟩, ho, HB2⟩
      case round =>
        obtain ⟨k, rfl, ⟨k0, kg⟩, ow, hB⟩ := hrel
        have KG := Lib.hid kg
        clear kg ho HB2
        by_cases hk : k < LS.length
        · obtain ⟨X, hX⟩ : ∃ X, LS[k]? = some X := ⟨LS[k], List.getElem?_eq_getElem hk⟩
          obtain ⟨v, hv, b, ob, cp, rfl, hb, hc⟩ := hs.out k X hX
          have sz := hB.out.size
          have c0 := (hB.out.cell (p := ⟨g, o + k, none⟩) hg).trans hv
          have nw := Lib.hid (hc.under hB.out hb).news
          have E : Hid (catL LS (k + 1) = catL LS k ++ X) := Lib.hid (catL_succ hX)
          have L1 := catL_le LS (k + 1)
          rw [hN.out] at L1
          have L2 : (catL LS k).length + X.length ≤ 1000 := by rw [E.out, List.length_append] at L1; omega
          have j2 : IntKind.i64.wrap ((k : Int) + 1) = (k : Int) + 1 := IntWalk.i64_in _ (by omega)
          clear hv hc hX L1
          go_wp2_with (first | (at_builtin; refine wpList_append_own _ rfl (.tmp 31) (.tmp 32) 40 rfl wc.heap.size 23 i0 (.agg #[.int .i64 0, .int .i64 0, .int .i64 0]) 3 24 Try.underlying40 hi hz0 hz1 hz2 rfl (by decide) _ _ _ rfl ow.out ⟨b, ob, none⟩ X.length cp (cells3 X) rfl (cells3_length X) nw.out (cells3_one X) (by unfold maxLen; omega) (by omega) sz ?_))
          intro v' w1 own' grow' _
          have O' : Hid (w1.ownsRow wc.heap.size 23 3 v' (catL LS (k + 1)).length (cells3 (catL LS (k + 1)))) := Lib.hid (by rw [E.out, List.length_append, cells3_append]; exact own')
          have B' : Hid (Below wc.heap.size wc w1) := Lib.hid (hB.out.grown grow' sz (fun k' e' => (ow.out.lt k' e').1))
          clear own' grow' c0
          go_wp2_with fail
          go_roundg (LS.length - k)
          case measure => exact KG.out
          case rel => exact ⟨k + 1, by push_cast; rfl, ⟨by omega, by omega⟩, O', B'⟩
        · obtain rfl : k = LS.length := by omega
          go_wp2_with fail
          go_meet
          exact ⟨Lib.hid (by have e := ow.out; unfold catL at e; rw [List.take_length, hN.out] at e; exact e), hB⟩
    case rest =>
      obtain ⟨ow, hB⟩ := hcut
      rw [← hN.out] at ow
      go_wp2
      exact bodyPost_ret (v := _) (by simp [results, Try.results154, go_sem, *]) rfl ⟨_, rfl, ow, hB.out⟩
end Go.Proofs.Ytmelknodmbdhpaa
namespace Go.Proofs.Ytmelknodmbdhpaa
open Go.RowKit
theorem res44a (w : World) (t : TypeId) (a b c d a' b' c' d' : Value) :
    Below w.heap.size w ((w.alloc (.cells #[a, b, c, d] t)).alloc (.cells #[a', b', c', d'] t)) ∧ Blk w.heap.size a b c d ((w.alloc (.cells #[a, b, c, d] t)).alloc (.cells #[a', b', c', d'] t)) ∧ Blk (w.heap.size + 1) a' b' c' d' ((w.alloc (.cells #[a, b, c, d] t)).alloc (.cells #[a', b', c', d'] t)) :=
  res44 (Below.refl _ _)
/-- what with returns -/
def DWithRet (X : List R3) (k s h : Int) (w : World) : Ending → World → Prop := fun e w' => ∃ v, e = .returned (.agg #[v, .int .i64 k, .int .i64 s, .int .i64 h]) ∧ Hid (w'.ownsRow w.heap.size 23 3 v X.length (cells3 X)) ∧ Below w.heap.size w w'
set_option maxRecDepth 100000 in
set_option maxHeartbeats 3200000 in
theorem with_any (dv : Value) (k s h : Int) (b o cap : Nat) (X : List R3) (w : World) (hb : b < w.heap.size) (hc : Hid (At3 w b o X)) (hn : X.length ≤ 1000) (hd : ∃ a n c, dv = .slice a n c) :
    Calls Try.prog 153 #[.agg #[dv, .int .i64 k, .int .i64 s, .int .i64 h], .slice (some ⟨b, o, none⟩) X.length cap] w (DWithRet X k s h w) := by
  obtain ⟨da, dn, dc, rfl⟩ := hd
  have R0 := res44a w 62 (.slice da dn dc) (.int .i64 k) (.int .i64 s) (.int .i64 h) (.slice none 0 0) (.int .i64 0) (.int .i64 0) (.int .i64 0)
  go_enter Try.func153, Try.ntmps153
  go_upto_region 1 with fail
  generalize (w.alloc (.cells #[.slice da dn dc, .int .i64 k, .int .i64 s, .int .i64 h] 62)).alloc (.cells #[.slice none 0 0, .int .i64 0, .int .i64 0, .int .i64 0] 62) = w1 at *
  have B1 := Lib.hid R0.1
  have D1 := Lib.hid R0.2.1
  have Z1 := Lib.hid R0.2.2
  have d1 := D1.out.c1
  have d2 := D1.out.c2
  have d3 := D1.out.c3
  clear R0
  refine wp_region_held_drew (S := (fun w' => w'.cell? ⟨w.heap.size, 1, none⟩ = some (.int .i64 k) ∧ w'.cell? ⟨w.heap.size, 2, none⟩ = some (.int .i64 s) ∧ w'.cell? ⟨w.heap.size, 3, none⟩ = some (.int .i64 h))) (by kernel_rfl) ?_ (fun hHeld => ?_)
  · first | exact hHeld | exact ⟨d1, d2, d3⟩ | (obtain ⟨q0, q1, q2⟩ := hHeld; refine ⟨?_, ?_, ?_⟩ <;> simp [go_sem, *]; done) | go_keep
  refine wpAnyH_take (i := 0) (oi := { dst := some 5, op := Op.move (Operand.tmp 1), type := 40, pos := "sets.go:102", after := #[], guard := none }) (v := ?_) rfl (by kernel_rfl) (by kernel_rfl) (by kernel_rfl) (fun _ _ _ h => h) (Or.inl ⟨by rfl, ?_⟩) (by assumption) ?_
  rotate_left
  · (intro w hSw; (try dsimp only at hSw); go_simp; first | done | with_reducible rfl)
  try simp only [Act.put, List.setIfInBounds_toArray, List.set_cons_zero, List.set_cons_succ]
  refine wpAnyH_take (i := 2) (oi := { dst := some 7, op := Op.fieldAddr 62 (Operand.tmp 2) 1, type := 0, pos := "sets.go:102", after := #[], guard := none }) (v := ?_) rfl (by kernel_rfl) (by kernel_rfl) (by kernel_rfl) (fun _ _ _ h => h) (Or.inl ⟨by rfl, ?_⟩) (by assumption) ?_
  rotate_left
  · (intro w hSw; (try dsimp only at hSw); go_simp; first | done | with_reducible rfl)
  try simp only [Act.put, List.setIfInBounds_toArray, List.set_cons_zero, List.set_cons_succ]
  refine wpAnyH_take (i := 3) (oi := { dst := some 8, op := Op.load 60 (Operand.tmp 7), type := 60, pos := "sets.go:102", after := #[{ on := 2, ground := Ground.data }], guard := none }) (v := ?_) rfl (by kernel_rfl) (by kernel_rfl) (by kernel_rfl) (fun _ _ _ h => h) (Or.inl ⟨by rfl, ?_⟩) (by assumption) ?_
  rotate_left
  · (intro w hSw; (try dsimp only at hSw); go_simp; first | done | with_reducible rfl)
  try simp only [Act.put, List.setIfInBounds_toArray, List.set_cons_zero, List.set_cons_succ]
  refine wpAnyH_ready (rs := [1]) (by kernel_rfl) (by simp) ?_
  refine AllReadyH.cons (o := { dst := some 6, op := Op.call { callee := Callee.value (Operand.func 177), args := #[Operand.tmp 5], argTypes := #[40] }, type := 40, pos := "sets.go:102", after := #[{ on := 0, ground := Ground.data }], guard := none }) rfl (fun K hK => ?_) AllReadyH.nil
  go_simp
  refine (cloneR_any b o cap X _ (Nat.lt_of_lt_of_le hb (to_drew B1.out).size) (Lib.hid (hc.out.under (to_drew B1.out) hb)) hn).mono ?_
  rintro e w2 ⟨v', rfl, own, hb2'⟩
  have hb2 : Below w1.heap.size w1 w2 := ⟨hb2'.os, hb2'.tape, hb2'.output, hb2'.size, hb2'.block⟩
  have B2 := Lib.hid (B1.out.trans (hb2.mono B1.out.size))
  have D2 := Lib.hid (D1.out.keep hb2)
  have Z2 := Lib.hid (Z1.out.keep hb2)
  have OW : Hid (w2.ownsRow w1.heap.size 23 3 v' X.length (cells3 X)) := own
  obtain ⟨ra, rc, rfl⟩ := owns_slice OW.out
  have e1 := D2.out.c1
  have e2 := D2.out.c2
  have e3 := D2.out.c3
  have z0 := Z2.out.c0
  have z1 := Z2.out.c1
  have z2 := Z2.out.c2
  have z3 := Z2.out.c3
  have f0 := Z2.out.f0
  have f1 := Z2.out.f1
  have f2 := Z2.out.f2
  have f3 := Z2.out.f3
  clear hb2 hb2' own
  go_wp2_with fail
  refine hK.out _ _ ?_ (fun hHeld1 => ?_)
  · exact ⟨e1, e2, e3⟩
  clear hK K hHeld
  have hHeld := hHeld1
  clear hHeld1
  try simp only [Act.put, List.setIfInBounds_toArray, List.set_cons_zero, List.set_cons_succ]
  refine wpAnyH_take (i := 4) (oi := { dst := some 9, op := Op.build 62 #[(0, Operand.tmp 6), (1, Operand.tmp 8)], type := 62, pos := "sets.go:102", after := #[{ on := 1, ground := Ground.data }, { on := 3, ground := Ground.data }], guard := none }) (v := ?_) rfl (by kernel_rfl) (by kernel_rfl) (by kernel_rfl) (fun _ _ _ h => h) (Or.inl ⟨by rfl, ?_⟩) (by assumption) ?_
  rotate_left
  · (intro w hSw; (try dsimp only at hSw); go_simp; first | done | with_reducible rfl)
  try simp only [Act.put, List.setIfInBounds_toArray, List.set_cons_zero, List.set_cons_succ]
  refine wpAnyH_ready (rs := [5]) (by kernel_rfl) (by simp) ?_
  refine AllReadyH.cons (o := { dst := none, op := Op.store 62 (Operand.tmp 4) (Operand.tmp 9), type := 0, pos := "sets.go:102", after := #[{ on := 4, ground := Ground.data }, { on := 1, ground := Ground.chain }, { on := 0, ground := Ground.phase }, { on := 1, ground := Ground.phase }, { on := 2, ground := Ground.phase }, { on := 3, ground := Ground.phase }, { on := 4, ground := Ground.phase }], guard := none }) rfl (fun K hK => ?_) AllReadyH.nil
  go_simp
  refine hK.out _ _ ?_ (fun hHeld5 => ?_)
  · first | exact hHeld | exact ⟨d1, d2, d3⟩ | (obtain ⟨q0, q1, q2⟩ := hHeld; refine ⟨?_, ?_, ?_⟩ <;> simp [go_sem, *]; done) | go_keep
  clear hK K hHeld
  have hHeld := hHeld5
  clear hHeld5
  try simp only [Act.put, List.setIfInBounds_toArray, List.set_cons_zero, List.set_cons_succ]
  refine wpAnyH_done (by kernel_rfl) ?_ _

  have s1 := B1.out.size
  have s2 := Z1.out.size
  clear hHeld
  go_wp2
  refine bodyPost_ret (v := .agg #[.slice ra X.length rc, .int .i64 k, .int .i64 s, .int .i64 h]) (by simp [results, Try.results153, go_sem, *]) rfl ⟨_, rfl, Lib.hid ?_, ?_⟩
  · refine owns_base (base := w1.heap.size) ?_ s1
    repeat (first | exact OW.out | refine ownsRow_setCell_below ?_ (by simp; try omega) _)
  · repeat (first | exact B2.out | refine Below.setCell ?_ (by simp; try omega) _)
end Go.Proofs.Ytmelknodmbdhpaa
namespace Go.Proofs.Ytmelknodmbdhpaa
open Go.RowKit
theorem Try.infoDomain : (Try.prog.info? 62).map (fun i => (i.zero, i.size, i.bytes)) = some (some (.agg #[.slice none 0 0, .int .i64 0, .int .i64 0, .int .i64 0]), 4, 48) := by kernel_rfl
/-- the pieces of a dimension -/
def SubsP (L M : List R3) (i : Nat) (P : List R3) : Prop := ∃ (A B : R3) (l h s : Int), L[i]? = some A ∧ M[i]? = some B ∧ InterF A.1 A.2.1 A.2.2 B.1 B.2.1 B.2.2 l h s ∧ P = subAll A.1 A.2.1 A.2.2 l h s
/-- the ranges of the pieces of a dimension: ahead of it both agree, behind it all is left -/
def pcs (C L : List R3) (i : Nat) (P : List R3) : List (List R3) := P.map fun r => C.take i ++ [r] ++ L.drop (i + 1)
/-- the pieces of the first k dimensions -/
def allP (C L : List R3) (PS : List (List R3)) : Nat → List (List R3)
  | 0 => []
  | k + 1 => allP C L PS k ++ pcs C L k (PS.getD k [])
theorem allP_append {C L : List R3} {PS : List (List R3)} (P : List R3) : ∀ {k : Nat}, k ≤ PS.length → allP C L (PS ++ [P]) k = allP C L PS k
  | 0, _ => rfl
  | k + 1, h => by
    have e : (PS ++ [P]).getD k [] = PS.getD k [] := by simp [List.getD, List.getElem?_append_left (show k < PS.length by omega)]
    rw [allP, allP, allP_append P (by omega), e]
/-- the domains of a difference, and its error -/
def DSubs (L M C : List R3) (Ds : List (List R3)) (er : Int) : Prop :=
  (prodL L = 0 ∧ Ds = [] ∧ er = 0) ∨ (¬ prodL L = 0 ∧ prodL C = 0 ∧ Ds = [L] ∧ er = 0) ∨
  (¬ prodL L = 0 ∧ ¬ prodL C = 0 ∧ ∃ PS : List (List R3), (∀ i P, PS[i]? = some P → SubsP L M i P) ∧
    ((PS.length = L.length ∧ (∀ P ∈ PS, P.length ≤ 1000) ∧ er = 0 ∧ Ds = allP C L PS PS.length) ∨
     (∃ P, PS.length < L.length ∧ (∀ P ∈ PS, P.length ≤ 1000) ∧ SubsP L M PS.length P ∧ 1000 < P.length ∧ er = 7 ∧ Ds = [])))
/-- the cells of a list of domains with one map -/
def cells4 (us : List Value) (k s h : Int) : List Value := us.flatMap fun u => [u, .int .i64 k, .int .i64 s, .int .i64 h]
theorem cells4_append (us vs : List Value) (k s h : Int) : cells4 (us ++ vs) k s h = cells4 us k s h ++ cells4 vs k s h := by simp [cells4]
/-- a slice that a function made reads as a list of domains -/
def OwnD (base : Nat) (w : World) (v : Value) (Ds : List (List R3)) (k s h : Int) : Prop := ∃ us : List Value, us.length = Ds.length ∧ w.ownsRow base 62 4 v us.length (cells4 us k s h) ∧
  ∀ (j : Nat) (u : Value) (D : List R3), us[j]? = some u → Ds[j]? = some D → w.ownsRow base 23 3 u D.length (cells3 D)
theorem OwnD.nil (base : Nat) (w : World) (k s h : Int) : OwnD base w (.slice none 0 0) [] k s h := ⟨[], rfl, World.ownsRow_nil _ _ _ _, fun j u D hu => by simp at hu⟩
theorem OwnD.keep {base : Nat} {w w' : World} {v : Value} {Ds : List (List R3)} {k s h : Int} (o : OwnD base w v Ds k s h) (hb : Below w.heap.size w w') : OwnD base w' v Ds k s h := by
  obtain ⟨us, e, r, x⟩ := o
  exact ⟨us, e, owns_below r hb, fun j u D hu hD => owns_below (x j u D hu hD) hb⟩
theorem OwnD.base {base b' : Nat} {w : World} {v : Value} {Ds : List (List R3)} {k s h : Int} (o : OwnD base w v Ds k s h) (hb : b' ≤ base) : OwnD b' w v Ds k s h := by
  obtain ⟨us, e, r, x⟩ := o
  exact ⟨us, e, owns_base r hb, fun j u D hu hD => owns_base (x j u D hu hD) hb⟩
/-- rows of ranges and rows of domains lie apart -/
theorem owns_apart {b1 b2 : Nat} {w : World} {u v : Value} {n m : Nat} {xs ys : List Value} (h1 : w.ownsRow b1 23 3 u n xs) (h2 : w.ownsRow b2 62 4 v m ys) : u.ownBlock = none ∨ u.ownBlock ≠ v.ownBlock := by
  rcases h1.2 with ⟨rfl, _⟩ | ⟨g, cap, cur, rfl, _, hg, _⟩
  · exact Or.inl rfl
  · right
    rcases h2.2 with ⟨rfl, _⟩ | ⟨g', cap', cur', rfl, _, hg', _⟩
    · simp [Value.ownBlock]
    · intro e
      have e' : g = g' := by simpa [Value.ownBlock] using e
      subst e'
      rw [hg] at hg'
      simp at hg'
/-- a row of ranges lies as it lay behind an append to a row of domains -/
theorem owns_kept {b1 b2 : Nat} {w w' : World} {u v : Value} {n m : Nat} {xs ys : List Value} (h1 : w.ownsRow b1 23 3 u n xs) (h2 : w.ownsRow b2 62 4 v m ys) (hg : w.grownBy w' v.ownBlock) : w'.ownsRow b1 23 3 u n xs :=
  h1.kept hg (owns_apart h1 h2)
/-- a domain more -/
theorem OwnD.add {base : Nat} {w w' : World} {v v' : Value} {Ds : List (List R3)} {k s h : Int} {u : Value} {D : List R3} {o : Obj} {us : List Value} (e : us.length = Ds.length) (r : w.ownsRow base 62 4 v us.length (cells4 us k s h))
    (x : ∀ (j : Nat) (u : Value) (D : List R3), us[j]? = some u → Ds[j]? = some D → w.ownsRow base 23 3 u D.length (cells3 D)) (hu : w.ownsRow base 23 3 u D.length (cells3 D))
    (own' : w'.ownsRow base 62 4 v' (us.length + 1) (cells4 us k s h ++ cells4 [u] k s h)) (grow : (w.alloc o).grownBy w' v.ownBlock) : OwnD base w' v' (Ds ++ [D]) k s h := by
  have r' := r.alloc o
  refine ⟨us ++ [u], by simp [e], ?_, fun j a E ha hE => ?_⟩
  · rw [List.length_append, cells4_append]; exact own'
  · by_cases c : j < us.length
    · rw [List.getElem?_append_left c] at ha
      rw [List.getElem?_append_left (by omega)] at hE
      exact owns_kept ((x j a E ha hE).alloc o) r' grow
    · have cj : j = us.length := by
        have := (List.getElem?_eq_some_iff.1 ha).1
        simp at this; omega
      subst cj
      rw [List.getElem?_append_right (by omega)] at ha hE
      simp at ha
      simp [e] at hE
      subst ha; subst hE
      exact owns_kept (hu.alloc o) r' grow
theorem allP_len {C L : List R3} {PS : List (List R3)} (h : ∀ P ∈ PS, P.length ≤ 1000) : ∀ k : Nat, (allP C L PS k).length ≤ k * 1000
  | 0 => by simp [allP]
  | k + 1 => by
    have h1 := allP_len h k (C := C) (L := L)
    have h2 : (PS.getD k []).length ≤ 1000 := by
      by_cases c : k < PS.length
      · rw [List.getD_eq_getElem?_getD, List.getElem?_eq_getElem c]; exact h _ (List.getElem_mem c)
      · rw [List.getD_eq_getElem?_getD, List.getElem?_eq_none (by omega)]; simp
    rw [allP, List.length_append, pcs, List.length_map]; omega
theorem At3.take {w : World} {b o : Nat} {X : List R3} (h : At3 w b o X) (n : Nat) : At3 w b o (X.take n) := fun j x hx => by
  by_cases c : j < n
  · rw [List.getElem?_take_of_lt c] at hx; exact h j x hx
  · rw [List.getElem?_eq_none (by simp; omega)] at hx; cases hx
theorem At3.drop {w : World} {b o : Nat} {X : List R3} (h : At3 w b o X) (n : Nat) : At3 w b (o + n * 3) (X.drop n) := fun j x hx => by
  rw [List.getElem?_drop] at hx
  have := h (n + j) x hx
  have e : o + (n + j) * 3 = o + n * 3 + j * 3 := by omega
  rw [e] at this; exact this
/-- Concat's three slices -/
theorem three_src {w8 : World} {X L : List R3} {i : Nat} {x : R3} {s1 s3 : Value} {t1 t2 : TypeId} (h1 : Src w8 s1 (X.take i)) (h3 : Src w8 s3 (L.drop (i + 1))) : ∀ (k : Nat) (Y : List R3), [X.take i, [x], L.drop (i + 1)][k]? = some Y →
    ∃ v, (((w8.alloc (.cells #[.int .i64 x.1, .int .i64 x.2.1, .int .i64 x.2.2] t1)).alloc (.cells #[s1, .slice (some ⟨w8.heap.size, 0, none⟩) 1 1, s3] t2)).drew).cell? ⟨w8.heap.size + 1, 0 + k, none⟩ = some v ∧
      Src (((w8.alloc (.cells #[.int .i64 x.1, .int .i64 x.2.1, .int .i64 x.2.2] t1)).alloc (.cells #[s1, .slice (some ⟨w8.heap.size, 0, none⟩) 1 1, s3] t2)).drew) v Y := by
  have b1 := below_new w8 (.cells #[.int .i64 x.1, .int .i64 x.2.1, .int .i64 x.2.2] t1)
  have n1 := B3.new (.int .i64 x.1) (.int .i64 x.2.1) (.int .i64 x.2.2) t1 w8
  have e1 : (w8.alloc (.cells #[.int .i64 x.1, .int .i64 x.2.1, .int .i64 x.2.2] t1)).heap.size = w8.heap.size + 1 := by simp
  generalize w8.alloc (.cells #[.int .i64 x.1, .int .i64 x.2.1, .int .i64 x.2.2] t1) = wa at *
  have b2 := below_new wa (.cells #[s1, .slice (some ⟨w8.heap.size, 0, none⟩) 1 1, s3] t2)
  have n2 := B3.new s1 (.slice (some ⟨w8.heap.size, 0, none⟩) 1 1) s3 t2 wa
  have m2 := n1.keep b2
  generalize wa.alloc (.cells #[s1, .slice (some ⟨w8.heap.size, 0, none⟩) 1 1, s3] t2) = wb at *
  have bb : Below w8.heap.size w8 wb.drew := to_drew (b1.trans (b2.mono (by omega)))
  rw [e1] at n2
  intro k Y hY
  match k, hY with
  | 0, hY => simp at hY; subst hY; exact ⟨s1, n2.c0, h1.keep bb⟩
  | 1, hY =>
    simp at hY; subst hY
    refine ⟨_, n2.c1, w8.heap.size, 0, 1, rfl, m2.size, fun j y hy => ?_⟩
    match j, hy with
    | 0, hy => simp at hy; subst hy; exact ⟨m2.c0, m2.c1, m2.c2⟩
  | 2, hY => simp at hY; subst hY; exact ⟨s3, n2.c2, h3.keep bb⟩
end Go.Proofs.Ytmelknodmbdhpaa
