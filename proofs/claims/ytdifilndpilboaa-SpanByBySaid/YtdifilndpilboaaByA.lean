/-
  slices.Equal, Grow and Concat over ints.
-/
import Derived.Test.YtdifilndpilboaaNumB
import Derived.WalkKit
import Derived.Deep.RegionWith
import Derived.Deep.DeepCutAuto
import Derived.Deep.LoopGhost
import Derived.Deep.CutBlock
import Derived.WalkSpells
import Derived.WalkLawsBesides
import Derived.BigQuiet
import Derived.Deep.QuietTactic
import Derived.Deep.RegionHeld3
import Derived.Deep.DrawnRows
import Derived.Deep.AppendLies
import Derived.Laws.AppendOwnNone
import Derived.Lib.AppendZeros
import Derived.Lib.AppendZerosOnto
import Derived.Lib.Hide
namespace Go.Proofs.Ytdifilndpilboaa
open Go.RowKit

set_option maxRecDepth 100000 in
set_option maxHeartbeats 3200000 in
theorem equalI_some (g1 g2 c1 c2 b1 b2 : Nat) (xs : List Int) (w : World) (h1 : w.ownsRow b1 3 1 (.slice (some ⟨g1, 0, none⟩) xs.length c1) xs.length (xs.map (Value.int .i64))) (h2 : w.ownsRow b2 3 1 (.slice (some ⟨g2, 0, none⟩) xs.length c2) xs.length (xs.map (Value.int .i64))) (hn : xs.length ≤ 5000) :
    Calls Try.prog 52 #[.slice (some ⟨g1, 0, none⟩) xs.length c1, .slice (some ⟨g2, 0, none⟩) xs.length c2] w fun e w' => e = .returned (.bool true) ∧ Below w.heap.size w w' := by
  have z1 := (h1.lt _ rfl).2
  have z2 := (h2.lt _ rfl).2
  have H1 := Lib.hid h1
  have H2 := Lib.hid h2
  clear h1 h2
  go_enter Try.func52, Try.ntmps52
  go_wp2_with fail
  go_loopg [5, 13] (xs.length + 1) (fun gh _ v13 wr => ∃ k : Nat, v13 = .int .i64 k ∧ (k ≤ xs.length ∧ xs.length - k < gh) ∧ Below w.heap.size w wr)
  case atStart => exact ⟨0, rfl, ⟨by omega, by omega⟩, Below.refl _ _⟩
  case round =>
    obtain ⟨k, rfl, ⟨k0, kg⟩, hb⟩ := hrel
    have KG := Lib.hid kg
    clear kg
    have HB := Lib.hid hb
    clear hb
    by_cases hk : k < xs.length
    · obtain ⟨x, hx⟩ : ∃ x, xs[k]? = some x := ⟨xs[k], List.getElem?_eq_getElem hk⟩
      have p0 : wr.cell? ⟨g1, k, none⟩ = some (.int .i64 x) := (HB.out.cell (p := ⟨g1, k, none⟩) z1).trans ((H1.out.cellAt k (by omega)).trans (by simp [hx]))
      have q0 : wr.cell? ⟨g2, k, none⟩ = some (.int .i64 x) := (HB.out.cell (p := ⟨g2, k, none⟩) z2).trans ((H2.out.cellAt k (by omega)).trans (by simp [hx]))
      clear hx
      go_wp2_with fail
      go_quiet (fail)
      go_wp2
      go_roundg (xs.length - k)
      case measure => exact KG.out
      case rel => exact ⟨k + 1, by go_num, ⟨by omega, by omega⟩, HB.out.trans (below_drewN (Below.refl _ _) _)⟩
    · go_wp2
      exact bodyPost_ret (v := .bool true) (by simp [results, Try.results52, go_sem, *]) rfl ⟨rfl, HB.out⟩
set_option maxRecDepth 100000 in
set_option maxHeartbeats 3200000 in
theorem equalI_none (a1 a2 : Option Addr) (c1 c2 : Nat) (w : World) :
    Calls Try.prog 52 #[.slice a1 0 c1, .slice a2 0 c2] w fun e w' => e = .returned (.bool true) ∧ Below w.heap.size w w' := by
  go_enter Try.func52, Try.ntmps52
  go_wp2_with fail
  go_loopg [5, 13] 1 (fun gh _ v13 wr => v13 = .int .i64 0 ∧ 0 < gh ∧ wr = w)
  case atStart => exact ⟨rfl, by omega, rfl⟩
  case round =>
    obtain ⟨rfl, h0, rfl⟩ := hrel
    go_wp2
    exact bodyPost_ret (v := .bool true) (by simp [results, Try.results52, go_sem, *]) rfl ⟨rfl, Below.refl _ _⟩
theorem equalI_any (v1 v2 : Value) (b1 b2 : Nat) (xs : List Int) (w : World) (h1 : w.ownsRow b1 3 1 v1 xs.length (xs.map (Value.int .i64))) (h2 : w.ownsRow b2 3 1 v2 xs.length (xs.map (Value.int .i64))) (hn : xs.length ≤ 5000) :
    Calls Try.prog 52 #[v1, v2] w fun e w' => e = .returned (.bool true) ∧ Below w.heap.size w w' := by
  by_cases h0 : xs.length = 0
  · obtain ⟨a1, c1, rfl⟩ := owns_slice h1
    obtain ⟨a2, c2, rfl⟩ := owns_slice h2
    rw [h0]
    exact equalI_none a1 a2 c1 c2 w
  · have r1 := h1
    have r2 := h2
    rcases h1.2 with ⟨_, q⟩ | ⟨g1, c1, _, rfl, _⟩
    · exact absurd q h0
    · rcases h2.2 with ⟨_, q⟩ | ⟨g2, c2, _, rfl, _⟩
      · exact absurd q h0
      · exact equalI_some g1 g2 c1 c2 b1 b2 xs w r1 r2 hn

set_option maxRecDepth 100000 in
set_option maxHeartbeats 3200000 in
theorem grow_any (n : Nat) (w : World) (hn : n ≤ 5000) :
    Calls Try.prog 128 #[.slice none 0 0, .int .i64 n] w fun e w' => ∃ v, e = .returned v ∧ Hid (w'.ownsRow w.heap.size 3 1 v 0 []) ∧ Below w.heap.size w w' := by
  obtain ⟨i0, hi, hz0, hz1, hz2⟩ := info_parts Try.infoInt
  by_cases n0 : n = 0
  · subst n0
    go_enter Try.func128, Try.ntmps128
    go_wp2
    exact bodyPost_ret (v := .slice none 0 0) (by simp [results, Try.results128, go_sem, *]) rfl ⟨_, rfl, World.ownsRow_nil _ _ _ _, Below.refl _ _⟩
  · have hrz : ∀ ty, (Builtin.append_ #[48, 3] ty #[.slice none 0 0, .int .i64 (n : Int)]).run Try.prog w =
        .ok (.slice (some ⟨w.heap.size, 0, none⟩) n (grownCap w n 0 3)) (w.drew.alloc (.cells (#[] ++ Builtin.zeroCells (Value.int .i64 0).cells n ++ Builtin.zeroCells (Value.int .i64 0).cells (grownCap w n 0 3 - n)) 3)) := fun ty => by
      have h := Lib.run_append_grow_zeros (P := Try.prog) w 48 3 ty 3 i0 (.int .i64 0) .i64 .i64 Try.underlying48 Try.underlying3 hi hz0 none 0 0 [] (by rw [hz1]; exact run_firstCells_none w.drew 1 0 0 0) n (by omega) (by omega) (by omega) (by omega) (by rw [hz2]; omega) (by rw [hz2]; exact growslice_fits (by omega) (by omega))
      simpa using h
    have hG := grownCap_ge w n 0 3
    have hG2 := grownCap_le_maxLen w n 0 3 (by unfold maxLen; omega)
    generalize grownCap w n 0 3 = G at hrz hG hG2
    have g63 : G ≤ 9223372036854775807 := by unfold maxLen at hG2; omega
    have own : Hid ((w.alloc (.cells (Builtin.zeroCells #[Value.int .i64 0] n ++ Builtin.zeroCells #[Value.int .i64 0] (G - n)) 3)).drew.ownsRow w.heap.size 3 1 (.slice (some ⟨w.heap.size, 0, none⟩) 0 G) 0 []) := Lib.hid (World.ownsRow_made w _ G (Nat.le_refl _) hG2 (by simp [size_zeroCells]; omega))
    have bel : Hid (Below w.heap.size w (w.alloc (.cells (Builtin.zeroCells #[Value.int .i64 0] n ++ Builtin.zeroCells #[Value.int .i64 0] (G - n)) 3)).drew) := Lib.hid ((Below.refl _ w).alloc (Nat.le_refl _) _).drew
    have n1 : ¬ ((n : Int) < 0) := by omega
    have n2 : (0 : Int) < n := by omega
    have n3 : 0 < n := by omega
    go_enter Try.func128, Try.ntmps128
    go_wp2_with (at_builtin; refine Lib.wpList_append_run _ rfl _ _ _ _ rfl _ _ rfl rfl _ _ (hrz _) ?_)
    exact bodyPost_ret (v := .slice (some ⟨w.heap.size, 0, none⟩) 0 G) (by simp [results, Try.results128, go_sem, *]) rfl ⟨_, rfl, own, bel.out⟩

/-- the list that Concat has gathered behind k lists -/
def catK (xs ys : List Int) (k : Nat) : List Int := if k = 0 then [] else if k = 1 then xs else xs ++ ys
set_option maxRecDepth 100000 in
set_option maxHeartbeats 6400000 in
theorem concat_any (va vb : Value) (b b1 b2 : Nat) (xs ys : List Int) (w : World) (hb : b < w.heap.size) (ca : w.cell? ⟨b, 0, none⟩ = some va) (cb : w.cell? ⟨b, 1, none⟩ = some vb)
    (ha : Hid (w.ownsRow b1 3 1 va xs.length (xs.map (Value.int .i64)))) (hv : Hid (w.ownsRow b2 3 1 vb ys.length (ys.map (Value.int .i64)))) (hx : xs.length ≤ 1000) (hy : ys.length ≤ 1000) :
    Calls Try.prog 56 #[.slice (some ⟨b, 0, none⟩) 2 2] w (NumRet (xs ++ ys) w) := by
  obtain ⟨i0, hi, hz0, hz1, hz2⟩ := info_parts Try.infoInt
  go_enter Try.func56, Try.ntmps56
  go_upto_block 0 with fail
  go_cut [3] (fun s3 wx => s3 = .int .i64 ((xs.length + ys.length : Nat) : Int) ∧ wx = w)
  case first =>
    obtain ⟨ao, cap, rfl⟩ := owns_slice ha.out
    obtain ⟨bo, cap', rfl⟩ := owns_slice hv.out
    go_wp2_with fail
    go_loopg [3, 5, 11] 3 (fun gh v3 _ v11 wr => ∃ k : Nat, v11 = .int .i64 k ∧ (k ≤ 2 ∧ 2 - k < gh) ∧ v3 = .int .i64 ((catK xs ys k).length : Nat) ∧ wr = w)
    case atStart => exact ⟨0, rfl, ⟨by omega, by omega⟩, rfl, rfl⟩
    case round =>
      obtain ⟨k, rfl, ⟨k0, kg⟩, rfl, rfl⟩ := hrel
      have KG := Lib.hid kg
      clear kg
      obtain rfl | rfl | rfl : k = 0 ∨ k = 1 ∨ k = 2 := by omega
      · have e1 : Hid ((catK xs ys 1).length = xs.length) := Lib.hid rfl
        have e0 : (catK xs ys 0).length = 0 := rfl
        rw [e0]
        have j1 : IntKind.i64.wrap (0 + (xs.length : Int)) = (xs.length : Int) := by rw [Int.zero_add]; exact IntWalk.i64_in _ (by omega)
        have j2 : IntKind.i64.wrap ((xs.length : Int)) = (xs.length : Int) := IntWalk.i64_in _ (by omega)
        have j3 : ¬ ((xs.length : Int) < 0) := by omega
        go_wp2_with fail
        go_roundg 2
        case measure => have := KG.out; omega
        case rel => exact ⟨1, rfl, ⟨by omega, by omega⟩, by rw [e1.out], rfl⟩
      · have e1 : Hid ((catK xs ys 2).length = xs.length + ys.length) := Lib.hid (by simp [catK])
        have e0 : (catK xs ys 1).length = xs.length := rfl
        rw [e0]
        have j1 : IntKind.i64.wrap ((xs.length : Int) + (ys.length : Int)) = (xs.length : Int) + (ys.length : Int) := IntWalk.i64_in _ (by omega)
        have j3 : ¬ ((xs.length : Int) + (ys.length : Int) < 0) := by omega
        go_wp2_with fail
        go_roundg 1
        case measure => have := KG.out; omega
        case rel => exact ⟨2, rfl, ⟨by omega, by omega⟩, by rw [e1.out]; push_cast; rfl, rfl⟩
      · go_wp2_with fail
        go_meet
        exact ⟨by simp [catK], rfl⟩
  case rest =>
    obtain ⟨rfl, rfl⟩ := hcut
    go_wp2_with fail
    refine (grow_any _ _ (by omega)).mono ?_
    rintro e w2 ⟨v0, rfl, ho, hb2⟩
    have HB2 := Lib.hid hb2
    clear hb2
    go_upto_block 2 with fail
    go_cut [6] (fun s6 wx => Hid (wx.ownsRow wc.heap.size 3 1 s6 (xs ++ ys).length ((xs ++ ys).map (Value.int .i64))) ∧ Hid (Below wc.heap.size wc wx))
    case first =>
      go_wp2_with fail
      go_loopg [6, 8, 27] 3 (fun gh v6 _ v27 wr => ∃ k : Nat, v27 = .int .i64 k ∧ (k ≤ 2 ∧ 2 - k < gh) ∧ Hid (wr.ownsRow wc.heap.size 3 1 v6 (catK xs ys k).length ((catK xs ys k).map (Value.int .i64))) ∧ Hid (Below wc.heap.size wc wr))
      case atStart => exact ⟨0, rfl, ⟨by omega, by omega⟩, ho, HB2⟩
      case round =>
        obtain ⟨k, rfl, ⟨k0, kg⟩, ow, hB⟩ := hrel
        have KG := Lib.hid kg
        clear kg ho HB2
        have sz := hB.out.size
        have ra := Lib.hid (owns_below ha.out hB.out)
        have rb := Lib.hid (owns_below hv.out hB.out)
        have c0 : wr.cell? ⟨b, 0, none⟩ = some va := (hB.out.cell (p := ⟨b, 0, none⟩) hb).trans ca
        have c1 : wr.cell? ⟨b, 1, none⟩ = some vb := (hB.out.cell (p := ⟨b, 1, none⟩) hb).trans cb
        obtain rfl | rfl | rfl : k = 0 ∨ k = 1 ∨ k = 2 := by omega
        · rcases ra.out.2 with ⟨hn, h0⟩ | ⟨g, cap, cur, hn, _, hg, _⟩
          · have z0 : xs = [] := List.eq_nil_of_length_eq_zero h0
            have E : Hid (catK xs ys 1 = catK xs ys 0) := Lib.hid (by simp [catK, z0])
            rw [hn] at c0
            clear h0 z0
            go_wp2_with (first | (at_builtin; refine wpList_append_own_none rfl (.tmp 31) (.tmp 32) 48 rfl wc.heap.size 3 i0 1 Try.underlying48 hi _ _ _ rfl ow.out rfl ?_))
            go_roundg 2
            case measure => have := KG.out; omega
            case rel => exact ⟨1, rfl, ⟨by omega, by omega⟩, by rw [E.out]; exact ow, hB⟩
          · have E : Hid (catK xs ys 1 = catK xs ys 0 ++ xs) := Lib.hid (by simp [catK])
            have rg := hn ▸ ra.out
            rw [hn] at c0
            have LK : (catK xs ys 0).length ≤ 1000 := by simp [catK]; try omega
            go_wp2_with (first | (at_builtin; refine wpList_append_own _ rfl (.tmp 31) (.tmp 32) 48 rfl wc.heap.size 3 i0 (.int .i64 0) 1 8 Try.underlying48 hi hz0 hz1 hz2 rfl (by decide) _ _ _ rfl ow.out ⟨g, 0, none⟩ xs.length cap (xs.map (Value.int .i64)) rfl (by simp) (rg.cells rfl) (by intro u hu; simp at hu; obtain ⟨y, _, rfl⟩ := hu; rfl) (by unfold maxLen; omega) (by omega) sz ?_))
            intro v' w1 own' grow' _
            have O' : Hid (w1.ownsRow wc.heap.size 3 1 v' (catK xs ys 1).length ((catK xs ys 1).map (Value.int .i64))) := Lib.hid (by rw [E.out, List.length_append, List.map_append]; exact own')
            have B' : Hid (Below wc.heap.size wc w1) := Lib.hid (hB.out.grown grow' sz (fun k' e' => (ow.out.lt k' e').1))
            clear own' grow' rg
            go_wp2_with fail
            go_roundg 2
            case measure => have := KG.out; omega
            case rel => exact ⟨1, rfl, ⟨by omega, by omega⟩, O', B'⟩
        · rcases rb.out.2 with ⟨hn, h0⟩ | ⟨g, cap, cur, hn, _, hg, _⟩
          · have z0 : ys = [] := List.eq_nil_of_length_eq_zero h0
            have E : Hid (catK xs ys 2 = catK xs ys 1) := Lib.hid (by simp [catK, z0])
            rw [hn] at c1
            clear h0 z0
            go_wp2_with (first | (at_builtin; refine wpList_append_own_none rfl (.tmp 31) (.tmp 32) 48 rfl wc.heap.size 3 i0 1 Try.underlying48 hi _ _ _ rfl ow.out rfl ?_))
            go_roundg 1
            case measure => have := KG.out; omega
            case rel => exact ⟨2, rfl, ⟨by omega, by omega⟩, by rw [E.out]; exact ow, hB⟩
          · have E : Hid (catK xs ys 2 = catK xs ys 1 ++ ys) := Lib.hid (by simp [catK])
            have rg := hn ▸ rb.out
            rw [hn] at c1
            have LK : (catK xs ys 1).length ≤ 1000 := by simp [catK]; try omega
            go_wp2_with (first | (at_builtin; refine wpList_append_own _ rfl (.tmp 31) (.tmp 32) 48 rfl wc.heap.size 3 i0 (.int .i64 0) 1 8 Try.underlying48 hi hz0 hz1 hz2 rfl (by decide) _ _ _ rfl ow.out ⟨g, 0, none⟩ ys.length cap (ys.map (Value.int .i64)) rfl (by simp) (rg.cells rfl) (by intro u hu; simp at hu; obtain ⟨y, _, rfl⟩ := hu; rfl) (by unfold maxLen; omega) (by omega) sz ?_))
            intro v' w1 own' grow' _
            have O' : Hid (w1.ownsRow wc.heap.size 3 1 v' (catK xs ys 2).length ((catK xs ys 2).map (Value.int .i64))) := Lib.hid (by rw [E.out, List.length_append, List.map_append]; exact own')
            have B' : Hid (Below wc.heap.size wc w1) := Lib.hid (hB.out.grown grow' sz (fun k' e' => (ow.out.lt k' e').1))
            clear own' grow' rg
            go_wp2_with fail
            go_roundg 1
            case measure => have := KG.out; omega
            case rel => exact ⟨2, rfl, ⟨by omega, by omega⟩, O', B'⟩
        · go_wp2_with fail
          go_meet
          exact ⟨Lib.hid (by have e := ow.out; simpa [catK] using e), hB⟩
    case rest =>
      obtain ⟨ow, hB⟩ := hcut
      go_wp2
      exact bodyPost_ret (v := _) (by simp [results, Try.results56, go_sem, *]) rfl ⟨_, rfl, ow, hB.out⟩
end Go.Proofs.Ytdifilndpilboaa
