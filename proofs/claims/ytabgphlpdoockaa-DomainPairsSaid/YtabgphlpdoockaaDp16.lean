/-
  Part 16: RDA, DQ, DKit2, SetM, RDS1.
-/
import Derived.Test.YtabgphlpdoockaaDp1
import Derived.Test.YtabgphlpdoockaaDp2
import Derived.Test.YtabgphlpdoockaaDp3
import Derived.Test.YtabgphlpdoockaaDp6
import Derived.Test.YtabgphlpdoockaaDp9
import Derived.Test.YtabgphlpdoockaaDp10
import Derived.Test.YtabgphlpdoockaaDp13
import Derived.Test.YtabgphlpdoockaaDp14
import Derived.Test.YtabgphlpdoockaaDp15
import Derived.BigQuiet
import Derived.Carry
import Derived.Deep.CutBlock
import Derived.Deep.DeepCutAuto
import Derived.Deep.DrawnRows
import Derived.Deep.LoopGhost
import Derived.Deep.QuietTactic
import Derived.Deep.RegionHeld3
import Derived.Deep.RegionWith
import Derived.Deep.Slices
import Derived.Deep.Strs
import Derived.Lib.Hide
import Derived.WalkKit
import Derived.WalkLawsBesides
import Derived.WalkSpells
namespace Go.Proofs.Ytabgphlpdoockaa
open Go.RowKit
set_option maxHeartbeats 3200000 in
theorem rmapped_any (k s h : Int) (w : World) : Calls Try.prog 145 #[.agg #[.int .i64 k, .int .i64 s, .int .i64 h]] w (PlRet k s h w) := by
  by_cases k0 : k = 0
  · subst k0
    by_cases s0 : s = 0
    · have s0' : (s == 0) = true := by simp [s0]
      by_cases h0 : 0 ≤ h
      · have h0' : decide (0 ≤ h) = true := by simp [h0]
        by_cases h1 : h < 8
        · have h1' : decide (h < 8) = true := by simp [h1]
          have E : Hid (plB 0 s h = true) := Lib.hid (by unfold plB; simp [*])
          clear s0
          go_enter Try.func145, Try.ntmps145
          go_wp2
          refine bodyPost_ret (v := .bool true) (by simp [results, Try.results145, go_sem, *]) rfl (pl_of E.out ?_)
          repeat (first | exact Below.refl _ _ | refine Below.alloc ?_ (by simp; try omega) _ | refine Below.setCell ?_ (by simp; try omega) _)
        · have h1' : decide (h < 8) = false := by simp [h1]
          have E : Hid (plB 0 s h = false) := Lib.hid (by unfold plB; simp [*])
          clear s0
          go_enter Try.func145, Try.ntmps145
          go_wp2
          refine bodyPost_ret (v := .bool false) (by simp [results, Try.results145, go_sem, *]) rfl (pl_of E.out ?_)
          repeat (first | exact Below.refl _ _ | refine Below.alloc ?_ (by simp; try omega) _ | refine Below.setCell ?_ (by simp; try omega) _)
      · have h0' : decide (0 ≤ h) = false := by simp [h0]
        have E : Hid (plB 0 s h = false) := Lib.hid (by unfold plB; simp [*])
        clear s0
        go_enter Try.func145, Try.ntmps145
        go_wp2
        refine bodyPost_ret (v := .bool false) (by simp [results, Try.results145, go_sem, *]) rfl (pl_of E.out ?_)
        repeat (first | exact Below.refl _ _ | refine Below.alloc ?_ (by simp; try omega) _ | refine Below.setCell ?_ (by simp; try omega) _)
    · have s0' : (s == 0) = false := by simp [s0]
      have E : Hid (plB 0 s h = false) := Lib.hid (by unfold plB; simp [*])
      go_enter Try.func145, Try.ntmps145
      go_wp2
      refine bodyPost_ret (v := .bool false) (by simp [results, Try.results145, go_sem, *]) rfl (pl_of E.out ?_)
      repeat (first | exact Below.refl _ _ | refine Below.alloc ?_ (by simp; try omega) _ | refine Below.setCell ?_ (by simp; try omega) _)
  · have k0' : (k == 0) = false := by simp [k0]
    by_cases k1 : k = 1
    · subst k1
      by_cases s0 : s = 0
      · have s0' : (s == 0) = true := by simp [s0]
        by_cases h0 : h = 0
        · have h0' : (h == 0) = true := by simp [h0]
          have E : Hid (plB 1 s h = true) := Lib.hid (by unfold plB; simp [*])
          clear s0 h0
          go_enter Try.func145, Try.ntmps145
          go_wp2
          refine bodyPost_ret (v := .bool true) (by simp [results, Try.results145, go_sem, *]) rfl (pl_of E.out ?_)
          repeat (first | exact Below.refl _ _ | refine Below.alloc ?_ (by simp; try omega) _ | refine Below.setCell ?_ (by simp; try omega) _)
        · have h0' : (h == 0) = false := by simp [h0]
          have E : Hid (plB 1 s h = false) := Lib.hid (by unfold plB; simp [*])
          clear s0
          go_enter Try.func145, Try.ntmps145
          go_wp2
          refine bodyPost_ret (v := .bool false) (by simp [results, Try.results145, go_sem, *]) rfl (pl_of E.out ?_)
          repeat (first | exact Below.refl _ _ | refine Below.alloc ?_ (by simp; try omega) _ | refine Below.setCell ?_ (by simp; try omega) _)
      · have s0' : (s == 0) = false := by simp [s0]
        have E : Hid (plB 1 s h = false) := Lib.hid (by unfold plB; simp [*])
        go_enter Try.func145, Try.ntmps145
        go_wp2
        refine bodyPost_ret (v := .bool false) (by simp [results, Try.results145, go_sem, *]) rfl (pl_of E.out ?_)
        repeat (first | exact Below.refl _ _ | refine Below.alloc ?_ (by simp; try omega) _ | refine Below.setCell ?_ (by simp; try omega) _)
    · have k1' : (k == 1) = false := by simp [k1]
      by_cases k2 : k = 2
      · subst k2
        by_cases s0 : s = 0
        · have s0' : (s == 0) = true := by simp [s0]
          by_cases h0 : h = 0
          · have h0' : (h == 0) = true := by simp [h0]
            have E : Hid (plB 2 s h = true) := Lib.hid (by unfold plB; simp [*])
            clear s0 h0
            go_enter Try.func145, Try.ntmps145
            go_wp2
            refine bodyPost_ret (v := .bool true) (by simp [results, Try.results145, go_sem, *]) rfl (pl_of E.out ?_)
            repeat (first | exact Below.refl _ _ | refine Below.alloc ?_ (by simp; try omega) _ | refine Below.setCell ?_ (by simp; try omega) _)
          · have h0' : (h == 0) = false := by simp [h0]
            have E : Hid (plB 2 s h = false) := Lib.hid (by unfold plB; simp [*])
            clear s0
            go_enter Try.func145, Try.ntmps145
            go_wp2
            refine bodyPost_ret (v := .bool false) (by simp [results, Try.results145, go_sem, *]) rfl (pl_of E.out ?_)
            repeat (first | exact Below.refl _ _ | refine Below.alloc ?_ (by simp; try omega) _ | refine Below.setCell ?_ (by simp; try omega) _)
        · have s0' : (s == 0) = false := by simp [s0]
          have E : Hid (plB 2 s h = false) := Lib.hid (by unfold plB; simp [*])
          go_enter Try.func145, Try.ntmps145
          go_wp2
          refine bodyPost_ret (v := .bool false) (by simp [results, Try.results145, go_sem, *]) rfl (pl_of E.out ?_)
          repeat (first | exact Below.refl _ _ | refine Below.alloc ?_ (by simp; try omega) _ | refine Below.setCell ?_ (by simp; try omega) _)
      · have k2' : (k == 2) = false := by simp [k2]
        by_cases k4 : k = 4
        · subst k4
          by_cases s0 : s = 0
          · have s0' : (s == 0) = true := by simp [s0]
            by_cases h0 : h = 0
            · have h0' : (h == 0) = true := by simp [h0]
              have E : Hid (plB 4 s h = true) := Lib.hid (by unfold plB; simp [*])
              clear s0 h0
              go_enter Try.func145, Try.ntmps145
              go_wp2
              refine bodyPost_ret (v := .bool true) (by simp [results, Try.results145, go_sem, *]) rfl (pl_of E.out ?_)
              repeat (first | exact Below.refl _ _ | refine Below.alloc ?_ (by simp; try omega) _ | refine Below.setCell ?_ (by simp; try omega) _)
            · have h0' : (h == 0) = false := by simp [h0]
              have E : Hid (plB 4 s h = false) := Lib.hid (by unfold plB; simp [*])
              clear s0
              go_enter Try.func145, Try.ntmps145
              go_wp2
              refine bodyPost_ret (v := .bool false) (by simp [results, Try.results145, go_sem, *]) rfl (pl_of E.out ?_)
              repeat (first | exact Below.refl _ _ | refine Below.alloc ?_ (by simp; try omega) _ | refine Below.setCell ?_ (by simp; try omega) _)
          · have s0' : (s == 0) = false := by simp [s0]
            have E : Hid (plB 4 s h = false) := Lib.hid (by unfold plB; simp [*])
            go_enter Try.func145, Try.ntmps145
            go_wp2
            refine bodyPost_ret (v := .bool false) (by simp [results, Try.results145, go_sem, *]) rfl (pl_of E.out ?_)
            repeat (first | exact Below.refl _ _ | refine Below.alloc ?_ (by simp; try omega) _ | refine Below.setCell ?_ (by simp; try omega) _)
        · have k4' : (k == 4) = false := by simp [k4]
          by_cases k3 : k = 3
          · subst k3
            by_cases s0 : 1 ≤ s
            · have s0' : decide (1 ≤ s) = true := by simp [s0]
              by_cases s1 : s ≤ 1000
              · have s1' : decide (s ≤ 1000) = true := by simp [s1]
                by_cases h0 : h = 0
                · have h0' : (h == 0) = true := by simp [h0]
                  have E : Hid (plB 3 s h = true) := Lib.hid (by unfold plB; simp [*])
                  clear h0
                  go_enter Try.func145, Try.ntmps145
                  go_wp2
                  refine bodyPost_ret (v := .bool true) (by simp [results, Try.results145, go_sem, *]) rfl (pl_of E.out ?_)
                  repeat (first | exact Below.refl _ _ | refine Below.alloc ?_ (by simp; try omega) _ | refine Below.setCell ?_ (by simp; try omega) _)
                · have h0' : (h == 0) = false := by simp [h0]
                  have E : Hid (plB 3 s h = false) := Lib.hid (by unfold plB; simp [*])
                  go_enter Try.func145, Try.ntmps145
                  go_wp2
                  refine bodyPost_ret (v := .bool false) (by simp [results, Try.results145, go_sem, *]) rfl (pl_of E.out ?_)
                  repeat (first | exact Below.refl _ _ | refine Below.alloc ?_ (by simp; try omega) _ | refine Below.setCell ?_ (by simp; try omega) _)
              · have s1' : decide (s ≤ 1000) = false := by simp [s1]
                have E : Hid (plB 3 s h = false) := Lib.hid (by unfold plB; simp [*])
                go_enter Try.func145, Try.ntmps145
                go_wp2
                refine bodyPost_ret (v := .bool false) (by simp [results, Try.results145, go_sem, *]) rfl (pl_of E.out ?_)
                repeat (first | exact Below.refl _ _ | refine Below.alloc ?_ (by simp; try omega) _ | refine Below.setCell ?_ (by simp; try omega) _)
            · have s0' : decide (1 ≤ s) = false := by simp [s0]
              have E : Hid (plB 3 s h = false) := Lib.hid (by unfold plB; simp [*])
              go_enter Try.func145, Try.ntmps145
              go_wp2
              refine bodyPost_ret (v := .bool false) (by simp [results, Try.results145, go_sem, *]) rfl (pl_of E.out ?_)
              repeat (first | exact Below.refl _ _ | refine Below.alloc ?_ (by simp; try omega) _ | refine Below.setCell ?_ (by simp; try omega) _)
          · have k3' : (k == 3) = false := by simp [k3]
            have E : Hid (plB k s h = false) := Lib.hid (by unfold plB; simp [*])
            go_enter Try.func145, Try.ntmps145
            go_wp2
            refine bodyPost_ret (v := .bool false) (by simp [results, Try.results145, go_sem, *]) rfl (pl_of E.out ?_)
            repeat (first | exact Below.refl _ _ | refine Below.alloc ?_ (by simp; try omega) _ | refine Below.setCell ?_ (by simp; try omega) _)
set_option maxRecDepth 100000 in
set_option maxHeartbeats 3200000 in
theorem rDcheck_any (v : Value) (L : List R3) (k s h : Int) (w : World) (hr : Rd w v L) (hL : Ok3 L) :
    Calls Try.prog 68 #[.agg #[v, .int .i64 k, .int .i64 s, .int .i64 h]] w fun e w' => e = .returned (.int .i64 (dchk L k s h)) ∧ Below w.heap.size w w' := by
  obtain ⟨ao, cap, rfl, hc⟩ := hr
  by_cases q1 : L.length < 1
  · have q1' : decide ((L.length : Int) < 1) = true := by simp; omega
    have q1'' : (L.length : Int) < 1 := by omega
    have E : Hid (dchk L k s h = 5) := Lib.hid (by unfold dchk; rw [if_neg (by unfold rankB; simp; omega)])
    clear q1 hc hL
    go_enter Try.func68, Try.ntmps68
    go_wp2
    refine bodyPost_ret (v := .int .i64 5) (by simp [results, Try.results68, go_sem, *]) rfl ⟨by rw [E.out], ?_⟩
    exact below_new _ _
  · by_cases q2 : 2 < L.length
    · have q1' : decide ((L.length : Int) < 1) = false := by simp; omega
      have q2' : decide ((L.length : Int) > 2) = true := by simp; omega
      have q1'' : ¬ (L.length : Int) < 1 := by omega
      have q2'' : 2 < (L.length : Int) := by omega
      have E : Hid (dchk L k s h = 5) := Lib.hid (by unfold dchk; rw [if_neg (by unfold rankB; simp; omega)])
      clear q1 q2 hc hL
      go_enter Try.func68, Try.ntmps68
      go_wp2
      refine bodyPost_ret (v := .int .i64 5) (by simp [results, Try.results68, go_sem, *]) rfl ⟨by rw [E.out], ?_⟩
      exact below_new _ _
    · have q1' : decide ((L.length : Int) < 1) = false := by simp; omega
      have q2' : decide ((L.length : Int) > 2) = false := by simp; omega
      have q1'' : ¬ (L.length : Int) < 1 := by omega
      have q2'' : ¬ 2 < (L.length : Int) := by omega
      have HQ : Hid (rankB L.length = true) := Lib.hid (by unfold rankB; simp; omega)
      have hn : L.length = 1 ∨ L.length = 2 := by omega
      obtain ⟨b, o, rfl, hb, hcell⟩ := hc.resolve_left (by omega)
      have CL := Lib.hid hcell
      have HN := Lib.hid hn
      have HL := Lib.hid hL
      clear hcell hn hL q1 q2 hc
      have D0 : Hid (DSt w (.slice (some ⟨b, o, none⟩) L.length cap) k s h (w.alloc (.cells #[.slice (some ⟨b, o, none⟩) L.length cap, .int .i64 k, .int .i64 s, .int .i64 h] 62))) := Lib.hid ⟨below_new _ _, Blk.new _ _ _ _ _ _⟩
      go_enter Try.func68, Try.ntmps68
      go_wp2_with fail
      go_loopg [3, 4] (L.length + 1) (fun gh v3 _ wr => ∃ j : Nat, v3 = .int .i64 j ∧ (j ≤ L.length ∧ L.length - j < gh) ∧ Hid (dimsE (L.take j) = 0) ∧ Hid (DSt w (.slice (some ⟨b, o, none⟩) L.length cap) k s h wr))
      case atStart => exact ⟨0, rfl, ⟨by omega, by omega⟩, Lib.hid rfl, D0⟩
      case round =>
        obtain ⟨j, rfl, ⟨j0, jg⟩, hz, D1⟩ := hrel
        have KG := Lib.hid jg
        clear jg q1' q2' q1'' q2''
        have d0 := D1.out.d.c0
        by_cases hj : j < L.length
        · obtain ⟨x, hx⟩ : ∃ x, L[j]? = some x := ⟨L[j], List.getElem?_eq_getElem hj⟩
          obtain ⟨q0, q1, q2⟩ := CL.out j x hx
          have p0 := (D1.out.below.cell (p := ⟨b, o + j * 3, none⟩) hb).trans q0
          have p1 := (D1.out.below.cell (p := ⟨b, o + j * 3 + 1, none⟩) hb).trans q1
          have p2 := (D1.out.below.cell (p := ⟨b, o + j * 3 + 2, none⟩) hb).trans q2
          have ox := HL.out x (List.mem_of_getElem? hx)
          have DT := Lib.hid (dimsE_take hx hz.out)
          have n2 : (L.length : Int) ≤ 2 := by have := HN.out; omega
          have P0 := Lib.hid q0
          have P1 := Lib.hid q1
          have P2 := Lib.hid q2
          clear q0 q1 q2 hx
          go_wp2_with fail
          refine (refCheck_any x.1 x.2.1 x.2.2 _ ox.1 ox.2.1 ox.2.2).mono ?_
          rintro e w2 ⟨rfl, hb2⟩
          have D2 := Lib.hid (D1.out.keep hb2)
          clear hb2 D1 p0 p1 p2 d0
          have d0 := D2.out.d.c0
          have p0 := (D2.out.below.cell (p := ⟨b, o + j * 3, none⟩) hb).trans P0.out
          have p1 := (D2.out.below.cell (p := ⟨b, o + j * 3 + 1, none⟩) hb).trans P1.out
          have p2 := (D2.out.below.cell (p := ⟨b, o + j * 3 + 2, none⟩) hb).trans P2.out
          have jw : IntKind.i64.wrap ((j : Int) + 1) = (j : Int) + 1 := IntWalk.i64_in _ (by omega)
          by_cases c : chk x.1 x.2.1 x.2.2 = 0
          · by_cases c2 : x.2.2 < 0
            · have e : dimE x = 2 := by unfold dimE; rw [if_pos c, if_pos c2]
              have E : Hid (dchk L k s h = 2) := Lib.hid (by unfold dchk; rw [if_pos HQ.out, DT.out.2 (by omega), e]; rfl)
              have c' : (chk x.1 x.2.1 x.2.2 != 0) = false := by simp [c]
              clear c e DT
              go_wp2
              refine bodyPost_ret (v := .int .i64 2) (by simp [results, Try.results68, go_sem, *]) rfl ⟨by rw [E.out], D2.out.below⟩
            · have e : dimE x = 0 := by unfold dimE; rw [if_pos c, if_neg c2]
              have E : Hid (dimsE (L.take (j + 1)) = 0) := Lib.hid (DT.out.1 e)
              have c' : (chk x.1 x.2.1 x.2.2 != 0) = false := by simp [c]
              clear c e DT
              go_wp2_with fail
              go_roundg (L.length - j)
              case measure => exact KG.out
              case rel => exact ⟨j + 1, by go_num, ⟨by omega, by omega⟩, E, D2⟩
          · have e : dimE x = chk x.1 x.2.1 x.2.2 := by unfold dimE; rw [if_neg c]
            have E : Hid (dchk L k s h = chk x.1 x.2.1 x.2.2) := Lib.hid (by unfold dchk; rw [if_pos HQ.out, DT.out.2 (by omega), e, if_neg c])
            have c' : (chk x.1 x.2.1 x.2.2 != 0) = true := by simp [c]
            clear c e DT
            go_wp2
            refine bodyPost_ret (v := .int .i64 (chk x.1 x.2.1 x.2.2)) (by simp [results, Try.results68, go_sem, *]) rfl ⟨by rw [E.out], D2.out.below⟩
        · have Z : Hid (dimsE L = 0) := Lib.hid (by
            obtain rfl : j = L.length := by omega
            have := hz.out
            rwa [List.take_length] at this)
          have x1 := D1.out.d.c1
          have x2 := D1.out.d.c2
          have x3 := D1.out.d.c3
          go_wp2_with fail
          refine (rmapped_any k s h _).mono ?_
          rintro e w2 ⟨rfl, hb2⟩
          have D2 := Lib.hid (D1.out.keep hb2)
          clear hb2 D1 x1 x2 x3 d0
          cases hp : plB k s h
          · have E : Hid (dchk L k s h = 2) := Lib.hid (by unfold dchk; rw [if_pos HQ.out, if_pos Z.out, hp]; rfl)
            clear hp
            go_wp2
            refine bodyPost_ret (v := .int .i64 2) (by simp [results, Try.results68, go_sem, *]) rfl ⟨by rw [E.out], D2.out.below⟩
          · have E : Hid (dchk L k s h = 0) := Lib.hid (by unfold dchk; rw [if_pos HQ.out, if_pos Z.out, hp]; rfl)
            clear hp
            go_wp2
            refine bodyPost_ret (v := .int .i64 0) (by simp [results, Try.results68, go_sem, *]) rfl ⟨by rw [E.out], D2.out.below⟩
set_option maxRecDepth 100000 in
set_option maxHeartbeats 3200000 in
theorem rDsize_any (v : Value) (L : List R3) (k s h : Int) (w : World) (hr : Rd w v L) (hL : Ok3 L) :
    Calls Try.prog 70 #[.agg #[v, .int .i64 k, .int .i64 s, .int .i64 h]] w fun e w' => e = .returned (.int .i64 (dsiz L k s h)) ∧ Below w.heap.size w w' := by
  obtain ⟨ao, cap, rfl, hc⟩ := hr
  have HR : Hid (Rd w (.slice ao L.length cap) L) := Lib.hid ⟨ao, cap, rfl, hc⟩
  have HL := Lib.hid hL
  have HC := Lib.hid hc
  clear hc hL
  go_enter Try.func70, Try.ntmps70
  go_wp2_with fail
  refine (rDcheck_any _ L _ _ _ _ (HR.out.keep (below_new _ _)) HL.out).mono ?_
  rintro e w1 ⟨rfl, hb1⟩
  have R1 := resD hb1
  have D1 : Hid (DSt w (.slice ao L.length cap) k s h w1) := Lib.hid ⟨R1.1, R1.2⟩
  clear hb1 R1
  by_cases c : dchk L k s h = 0
  · have c' : (dchk L k s h != 0) = false := by simp [c]
    have E : Hid (dsiz L k s h = prodL L) := Lib.hid (by unfold dsiz; rw [if_pos c])
    have N := Lib.hid (dchk_rank c)
    obtain ⟨b, o, rfl, hb, hcell⟩ := HC.out.resolve_left (by have := N.out; omega)
    have CL := Lib.hid hcell
    clear c hcell HC
    go_wp2_with fail
    go_loopg [3, 4] (L.length + 1) (fun gh v3 v4 wr => ∃ (j : Nat) (p : Int), v4 = .int .i64 j ∧ v3 = .int .i64 p ∧ (j ≤ L.length ∧ L.length - j < gh) ∧ Hid (p = prodL (L.take j)) ∧ Hid (DSt w (.slice (some ⟨b, o, none⟩) L.length cap) k s h wr))
    case atStart => exact ⟨0, 1, rfl, rfl, ⟨by omega, by omega⟩, Lib.hid (by simp [prodL]), D1⟩
    case round =>
      obtain ⟨j, p, rfl, rfl, ⟨j0, jg⟩, hp, D2⟩ := hrel
      have KG := Lib.hid jg
      clear jg c'
      have d0 := D2.out.d.c0
      by_cases hj : j < L.length
      · obtain ⟨x, hx⟩ : ∃ x, L[j]? = some x := ⟨L[j], List.getElem?_eq_getElem hj⟩
        obtain ⟨q0, q1, q2⟩ := CL.out j x hx
        have p0 := (D2.out.below.cell (p := ⟨b, o + j * 3, none⟩) hb).trans q0
        have p1 := (D2.out.below.cell (p := ⟨b, o + j * 3 + 1, none⟩) hb).trans q1
        have p2 := (D2.out.below.cell (p := ⟨b, o + j * 3 + 2, none⟩) hb).trans q2
        have ox := HL.out x (List.mem_of_getElem? hx)
        have n2 : L.length ≤ 2 := by have := N.out; omega
        have PT := Lib.hid (prodL_take n2 hx)
        have pb := prodL_bd (L.take (j + 1))
        have jp : IntKind.i64.wrap (p * siz x.1 x.2.1 x.2.2) = p * siz x.1 x.2.1 x.2.2 := IntWalk.i64_in _ (by rw [hp.out, ← PT.out]; omega)
        have jw : IntKind.i64.wrap ((j : Int) + 1) = (j : Int) + 1 := IntWalk.i64_in _ (by omega)
        clear q0 q1 q2 hx pb
        go_wp2_with fail
        refine (refSize_any x.1 x.2.1 x.2.2 _ ox.1 ox.2.1 ox.2.2).mono ?_
        rintro e w2 ⟨rfl, hb2⟩
        have D3 := Lib.hid (D2.out.keep hb2)
        clear hb2 D2 p0 p1 p2 d0
        go_wp2_with fail
        go_roundg (L.length - j)
        case measure => exact KG.out
        case rel => exact ⟨j + 1, _, by go_num, rfl, ⟨by omega, by omega⟩, Lib.hid (by rw [PT.out, hp.out]), D3⟩
      · obtain rfl : j = L.length := by omega
        have E2 : Hid (dsiz L k s h = p) := Lib.hid (by have := hp.out; rw [List.take_length] at this; rw [E.out, this])
        go_wp2
        exact bodyPost_ret (v := .int .i64 p) (by simp [results, Try.results70, go_sem, *]) rfl ⟨by rw [E2.out], D2.out.below⟩
  · have c' : (dchk L k s h != 0) = true := by simp [c]
    have E : Hid (dsiz L k s h = 0) := Lib.hid (by unfold dsiz; rw [if_neg c])
    clear c
    go_wp2
    exact bodyPost_ret (v := .int .i64 0) (by simp [results, Try.results70, go_sem, *]) rfl ⟨by rw [E.out], D1.out.below⟩
set_option maxRecDepth 100000 in
set_option maxHeartbeats 3200000 in
theorem rpair_any (v : Value) (L : List R3) (k s h : Int) (v' : Value) (M : List R3) (k' s' h' : Int) (w : World) (hr : Rd w v L) (hL : Ok3 L) (hr' : Rd w v' M) (hM : Ok3 M) :
    Calls Try.prog 152 #[.agg #[v, .int .i64 k, .int .i64 s, .int .i64 h], .agg #[v', .int .i64 k', .int .i64 s', .int .i64 h']] w fun e w' => e = .returned (.int .i64 (dboth L k s h M k' s' h')) ∧ Below w.heap.size w w' := by
  obtain ⟨ao, cap, rfl, hc⟩ := hr
  obtain ⟨ao', cap', rfl, hc'⟩ := hr'
  have HR : Hid (Rd w (.slice ao L.length cap) L) := Lib.hid ⟨ao, cap, rfl, hc⟩
  have HR' : Hid (Rd w (.slice ao' M.length cap') M) := Lib.hid ⟨ao', cap', rfl, hc'⟩
  have HL := Lib.hid hL
  have HM := Lib.hid hM
  clear hc hL hc' hM
  go_enter Try.func152, Try.ntmps152
  go_wp2_with fail
  refine (rDcheck_any _ L _ _ _ _ ((HR.out.keep (below_new _ _)).keep (below_new _ _)) HL.out).mono ?_
  rintro e w1 ⟨rfl, hb1⟩
  have R1 := res44 hb1
  have B1 := Lib.hid R1.1
  have D1 := Lib.hid R1.2.1
  have F1 := Lib.hid R1.2.2
  clear hb1 R1
  by_cases c : dchk L k s h = 0
  · have c' : (dchk L k s h != 0) = false := by simp [c]
    have C := Lib.hid c
    have x0 := F1.out.c0
    have x1 := F1.out.c1
    have x2 := F1.out.c2
    have x3 := F1.out.c3
    clear c
    go_wp2_with fail
    refine (rDcheck_any _ M _ _ _ _ (HR'.out.keep B1.out) HM.out).mono ?_
    rintro e w2 ⟨rfl, hb2⟩
    have B2 := Lib.hid (B1.out.trans (hb2.mono B1.out.size))
    have D2 := Lib.hid (D1.out.keep hb2)
    have F2 := Lib.hid (F1.out.keep hb2)
    clear hb2 B1 D1 F1 x0 x1 x2 x3
    by_cases d : dchk M k' s' h' = 0
    · have d' : (dchk M k' s' h' != 0) = false := by simp [d]
      have x0 := D2.out.c0
      have y0 := F2.out.c0
      have D := Lib.hid d
      clear d
      by_cases e : L.length = M.length
      · have E : Hid (dboth L k s h M k' s' h' = 0) := Lib.hid (by unfold dboth; rw [if_pos C.out, if_pos D.out, if_pos e])
        have e' : ((L.length : Int) != (M.length : Int)) = false := by simp [e]
        clear e
        go_wp2
        rw [E.out]
        exact bodyPost_ret (v := .int .i64 0) (by simp [results, Try.results152, go_sem, *]) rfl ⟨rfl, B2.out⟩
      · have E : Hid (dboth L k s h M k' s' h' = 5) := Lib.hid (by unfold dboth; rw [if_pos C.out, if_pos D.out, if_neg e])
        have e' : ((L.length : Int) != (M.length : Int)) = true := by simp; omega
        clear e
        go_wp2
        rw [E.out]
        exact bodyPost_ret (v := .int .i64 5) (by simp [results, Try.results152, go_sem, *]) rfl ⟨rfl, B2.out⟩
    · have d' : (dchk M k' s' h' != 0) = true := by simp [d]
      have E : Hid (dboth L k s h M k' s' h' = dchk M k' s' h') := Lib.hid (by unfold dboth; rw [if_pos C.out, if_neg d])
      clear d
      go_wp2
      rw [E.out]
      exact bodyPost_ret (v := .int .i64 (dchk M k' s' h')) (by simp [results, Try.results152, go_sem, *]) rfl ⟨rfl, B2.out⟩
  · have c' : (dchk L k s h != 0) = true := by simp [c]
    have E : Hid (dboth L k s h M k' s' h' = dchk L k s h) := Lib.hid (by unfold dboth; rw [if_neg c])
    clear c
    go_wp2
    rw [E.out]
    exact bodyPost_ret (v := .int .i64 (dchk L k s h)) (by simp [results, Try.results152, go_sem, *]) rfl ⟨rfl, B1.out⟩
end Go.Proofs.Ytabgphlpdoockaa
namespace Go.Proofs.Ytabgphlpdoockaa
open Go.RowKit
/-- a slice of ints reads as a list -/
def Ri (w : World) (v : Value) (L : List Int) : Prop := ∃ (ao : Option Addr) (cap : Nat), v = .slice ao L.length cap ∧ (L.length = 0 ∨ ∃ b o : Nat, ao = some ⟨b, o, none⟩ ∧ b < w.heap.size ∧
  ∀ (j : Nat) (x : Int), L[j]? = some x → w.cell? ⟨b, o + j, none⟩ = some (.int .i64 x))
theorem Ri.keep {w w' : World} {v : Value} {L : List Int} (r : Ri w v L) (hb : Below w.heap.size w w') : Ri w' v L := by
  obtain ⟨ao, cap, e, h⟩ := r
  refine ⟨ao, cap, e, h.imp id ?_⟩
  rintro ⟨b, o, e, hlt, hc⟩
  exact ⟨b, o, e, Nat.lt_of_lt_of_le hlt hb.size, fun j x hx => (hb.cell (p := ⟨b, o + j, none⟩) hlt).trans (hc j x hx)⟩
end Go.Proofs.Ytabgphlpdoockaa
namespace Go.Proofs.Ytabgphlpdoockaa
theorem posB_iff {l h s n : Int} (hk : chk l h s = 0) : posB l h s n = true ↔ RMem l h s n := by
  unfold posB RMem Mem
  rw [decide_eq_true_iff]
  constructor
  · rintro ⟨_, a, b, c⟩; exact ⟨a, b, Int.dvd_of_emod_eq_zero c⟩
  · rintro ⟨a, b, c⟩; exact ⟨hk, a, b, Int.emod_eq_zero_of_dvd c⟩
theorem nums_mem {l h s : Int} (hk : chk l h s = 0) (n : Int) : n ∈ numsL l h s ↔ RMem l h s n := by
  unfold numsL numsU
  rw [List.mem_map]
  constructor
  · rintro ⟨k, hk1, rfl⟩
    have hlt : k < (siz l h s).toNat := by simpa using hk1
    exact (posB_iff hk).1 (nthV_in hk (show (k : Int) < siz l h s by omega)).1
  · intro hm
    have le : l ≤ h := by have := hm.1; have := hm.2.1; omega
    obtain ⟨st, z, m1, s0⟩ := steps_a hk le
    obtain ⟨q, hq⟩ := hm.2.2
    have h1 := hm.1
    have h2 := hm.2.1
    have q0 : 0 ≤ q := by
      by_cases c : 0 ≤ q
      · exact c
      · have : magA s * q ≤ magA s * (-1) := Int.mul_le_mul_of_nonneg_left (by omega) (by omega)
        omega
    have q1 : q ≤ siz l h s - 1 := by
      by_cases c : q ≤ siz l h s - 1
      · exact c
      · have : (siz l h s - 1 + 1) * magA s ≤ q * magA s := mulr_a _ _ _ (by omega) (by omega)
        rw [Int.add_mul] at this
        rw [Int.mul_comm] at hq
        omega
    by_cases c : s < 0
    · refine ⟨(siz l h s - 1 - q).toNat, by simp; omega, ?_⟩
      unfold nthV
      rw [if_pos c, show (((siz l h s - 1 - q).toNat : Nat) : Int) = siz l h s - 1 - q by omega, Int.sub_mul, ← st, Int.mul_comm q, ← hq]
      omega
    · refine ⟨q.toNat, by simp; omega, ?_⟩
      unfold nthV
      rw [if_neg c, show ((q.toNat : Nat) : Int) = q by omega, Int.mul_comm, ← hq]
      omega
theorem nums_up {l h s : Int} (hk : chk l h s = 0) (hs : ¬ s < 0) : (numsL l h s).Pairwise (· < ·) := by
  have bA := chk_bounds hk
  unfold numsL numsU
  rw [List.pairwise_map]
  refine List.Pairwise.imp ?_ List.pairwise_lt_range
  intro i j hij
  unfold nthV
  rw [if_neg hs, if_neg hs]
  have : ((i : Int) + 1) * magA s ≤ (j : Int) * magA s := mulr_a _ _ _ (by omega) (by omega)
  rw [Int.add_mul] at this
  omega
theorem nums_down {l h s : Int} (hk : chk l h s = 0) (hs : s < 0) : (numsL l h s).Pairwise (· > ·) := by
  have bA := chk_bounds hk
  unfold numsL numsU
  rw [List.pairwise_map]
  refine List.Pairwise.imp ?_ List.pairwise_lt_range
  intro i j hij
  unfold nthV
  rw [if_pos hs, if_pos hs]
  have : ((i : Int) + 1) * magA s ≤ (j : Int) * magA s := mulr_a _ _ _ (by omega) (by omega)
  rw [Int.add_mul] at this
  show _ > _
  omega
theorem nums_nodup {l h s : Int} (hk : chk l h s = 0) : (numsL l h s).Nodup := by
  by_cases c : s < 0
  · exact (nums_down hk c).imp fun h => by omega
  · exact (nums_up hk c).imp fun h => by omega
theorem nums_len (l h s : Int) : (numsL l h s).length = (siz l h s).toNat := numsL_length l h s
theorem nums_one {l h s : Int} (hk : chk l h s = 0) (c : ¬ l < h) : (numsL l h s).length ≤ 1 := by
  rw [nums_len]
  by_cases le : l ≤ h
  · rw [siz_ok hk le, show h - l = 0 by omega]; simp
  · rw [empty_a hk le]; simp
/-- the order of a range with a direction -/
theorem nums_dir {l h s : Int} (hk : chk l h s = 0) (d : Bool) (hd : l < h → (s < 0 ↔ d = true)) : (numsL l h s).Pairwise (fun x y => if d = true then x > y else x < y) := by
  by_cases c : l < h
  · cases d
    · exact (nums_up hk (fun e => by simpa using (hd c).1 e)).imp fun h => by simpa using h
    · exact (nums_down hk ((hd c).2 rfl)).imp fun h => by simpa using h
  · match hL : numsL l h s, nums_one hk c with
    | [], _ => exact List.Pairwise.nil
    | [x], _ => exact List.pairwise_singleton _ _
/-- what two ranges have in common are the numbers of the first one that are in the second one, in its order -/
theorem nums_inter {l1 h1 s1 l2 h2 s2 l h s : Int} (hA : chk l1 h1 s1 = 0) (hB : chk l2 h2 s2 = 0) (hC : chk l h s = 0) (hm : ∀ n, RMem l h s n ↔ RMem l1 h1 s1 n ∧ RMem l2 h2 s2 n) (hd : l < h → (s < 0 ↔ s1 < 0)) :
    numsL l h s = (numsL l1 h1 s1).filter (fun n => posB l2 h2 s2 n) := by
  refine List.Perm.eq_of_pairwise (le := fun x y => if decide (s1 < 0) = true then x > y else x < y) ?_ (nums_dir hC (decide (s1 < 0)) (fun c => by simpa using hd c)) ((nums_dir hA (decide (s1 < 0)) (fun _ => by simp)).filter _) ?_
  · intro a b _ _ x y
    split at x <;> rename_i c
    · rw [if_pos c] at y; omega
    · rw [if_neg c] at y; omega
  · refine (List.perm_ext_iff_of_nodup (nums_nodup hC) ((nums_nodup hA).filter _)).2 fun n => ?_
    rw [List.mem_filter, nums_mem hC, nums_mem hA, posB_iff hB]
    exact hm n
/-- the numbers of a list of ranges -/
def numsAll (L : List R3) : List Int := L.flatMap fun x => numsL x.1 x.2.1 x.2.2
/-- a list of right ranges that are not empty, that have no number twice, and just the numbers of which P holds -/
structure Acc (P : Int → Prop) (L : List R3) : Prop where
  ok : ∀ x ∈ L, chk x.1 x.2.1 x.2.2 = 0 ∧ x.1 ≤ x.2.1
  nodup : (numsAll L).Nodup
  mem : ∀ n, n ∈ numsAll L ↔ P n
theorem Acc.nil {P : Int → Prop} (h : ∀ n, ¬ P n) : Acc P [] := ⟨fun _ hx => (by cases hx), List.nodup_nil, fun n => ⟨fun hx => (by cases hx), fun hx => absurd hx (h n)⟩⟩
theorem Acc.iff {P Q : Int → Prop} {L : List R3} (a : Acc P L) (h : ∀ n, P n ↔ Q n) : Acc Q L := ⟨a.ok, a.nodup, fun n => (a.mem n).trans (h n)⟩
theorem nrm_le' {lo hi st : Int} {dn : Bool} (c : lo ≤ hi) : (nrm lo hi st dn).1 = lo ∧ (nrm lo hi st dn).2.1 = hi := by
  unfold nrm nL nH; simp; exact ⟨fun _ => by omega, fun _ => by omega⟩
theorem nrm_mem {lo hi st : Int} {dn : Bool} (c : lo ≤ hi) (h1 : 1 ≤ st) (n : Int) : RMem (nrm lo hi st dn).1 (nrm lo hi st dn).2.1 (nrm lo hi st dn).2.2 n ↔ Mem lo hi st n := by
  obtain ⟨e1, e2⟩ := nrm_le' (st := st) (dn := dn) c
  unfold RMem
  rw [e1, e2]
  unfold nrm nS Mem
  simp only
  rw [if_neg (by omega)]
  by_cases e : lo = hi
  · subst e
    rw [if_pos rfl]
    constructor
    · rintro ⟨a, b, _⟩; exact ⟨a, b, by rw [show n - lo = 0 by omega]; exact Int.dvd_zero _⟩
    · rintro ⟨a, b, _⟩; exact ⟨a, b, by rw [show n - lo = 0 by omega]; exact Int.dvd_zero _⟩
  · rw [if_neg e]
    have : magA (if dn = true then -st else st) = st := by
      unfold magA; split <;> split <;> omega
    rw [this]
theorem Acc.add {P : Int → Prop} {L : List R3} (a : Acc P L) (lo hi st : Int) (dn : Bool) (h1 : 1 ≤ st) (hb : lo ≤ hi → (st ∣ hi - lo) ∧ -1000000 ≤ lo ∧ hi ≤ 1000000) (hn : ∀ n, P n → ¬ Mem lo hi st n) : Acc (fun n => P n ∨ Mem lo hi st n) (addP L lo hi st dn) := by
  unfold addP
  by_cases c : lo ≤ hi
  · rw [if_pos c]
    obtain ⟨b1, b2, b3⟩ := hb c
    have ck : chk (nrm lo hi st dn).1 (nrm lo hi st dn).2.1 (nrm lo hi st dn).2.2 = 0 := by
      have := chk_nrm lo hi st dn c h1 (Int.emod_eq_zero_of_dvd b1)
      rw [if_neg (by omega)] at this
      exact this
    have e : numsAll (L ++ [nrm lo hi st dn]) = numsAll L ++ numsL (nrm lo hi st dn).1 (nrm lo hi st dn).2.1 (nrm lo hi st dn).2.2 := by
      unfold numsAll; rw [List.flatMap_append]; simp
    refine ⟨?_, ?_, ?_⟩
    · intro x hx
      rw [List.mem_append, List.mem_singleton] at hx
      rcases hx with hx | rfl
      · exact a.ok x hx
      · exact ⟨ck, by rw [(nrm_le' c).1, (nrm_le' c).2]; exact c⟩
    · rw [e, List.nodup_append]
      refine ⟨a.nodup, nums_nodup ck, fun x hx y hy exy => ?_⟩
      subst exy
      exact hn x ((a.mem x).1 hx) ((nrm_mem c h1 x).1 ((nums_mem ck x).1 hy))
    · intro n
      rw [e, List.mem_append, a.mem, nums_mem ck, nrm_mem c h1]
  · rw [if_neg c]
    exact a.iff fun n => ⟨Or.inl, fun h => h.elim id fun m => absurd (Int.le_trans m.1 m.2.1) c⟩
theorem Acc.mid {P : Int → Prop} {L : List R3} {l h m t : Int} {dn : Bool} (a : Acc P L) (m1 : 1 ≤ m) (t1 : 1 ≤ t) (hd : t ∣ h - l) (b1 : -1000000 ≤ l) (b2 : h ≤ 1000000) (hP : ∀ n, P n → n < l) : ∀ k : Nat, (k : Int) * m < t →
    Acc (fun n => P n ∨ ∃ j : Nat, 1 ≤ j ∧ j ≤ k ∧ Mem (l + (j : Int) * m) (h - t + (j : Int) * m) t n) (midN l h m t dn L k)
  | 0, _ => a.iff fun n => ⟨Or.inl, fun x => x.elim id fun ⟨j, j1, j0, _⟩ => by omega⟩
  | k + 1, hk => by
    have km : 0 ≤ (k : Int) * m := Int.mul_nonneg (by omega) (by omega)
    have e1 : (((k + 1 : Nat) : Int)) * m = (k : Int) * m + m := by push_cast; rw [Int.add_mul]; omega
    have ih := Acc.mid (dn := dn) a m1 t1 hd b1 b2 hP k (by omega)
    have e2 : ((k : Int) + 1) * m = (k : Int) * m + m := by rw [Int.add_mul]; omega
    refine (ih.add (l + ((k : Int) + 1) * m) (h - t + ((k : Int) + 1) * m) t dn t1 ?_ ?_).iff ?_
    · intro le
      obtain ⟨q, hq⟩ := hd
      refine ⟨⟨q - 1, by rw [Int.mul_sub, ← hq]; omega⟩, by omega, by omega⟩
    · rintro n (hn | ⟨j, j1, jk, hj⟩) hm
      · have := hP n hn; have := hm.1; omega
      · obtain ⟨q1, e3⟩ := hj.2.2
        obtain ⟨q2, e4⟩ := hm.2.2
        have jm : ((j : Int) + 1) * m ≤ ((k : Int) + 1) * m := mulr_a _ _ _ (by omega) (by omega)
        have jm0 : 1 * m ≤ (j : Int) * m := mulr_a _ _ _ (by omega) (by omega)
        rw [Int.add_mul] at jm
        have e5 : t * (q1 - q2) = ((k : Int) + 1) * m - (j : Int) * m := by rw [Int.mul_sub, ← e3, ← e4]; omega
        have d : t ∣ ((k : Int) + 1) * m - (j : Int) * m := ⟨q1 - q2, e5.symm⟩
        have := Int.le_of_dvd (by omega) d
        omega
    · intro n
      constructor
      · rintro ((hn | ⟨j, j1, jk, hj⟩) | hm)
        · exact Or.inl hn
        · exact Or.inr ⟨j, j1, by omega, hj⟩
        · refine Or.inr ⟨k + 1, by omega, by omega, ?_⟩
          rw [e1, ← e2]; exact hm
      · rintro (hn | ⟨j, j1, jk, hj⟩)
        · exact Or.inl (Or.inl hn)
        · by_cases c : j = k + 1
          · subst c
            rw [e1, ← e2] at hj
            exact Or.inr hj
          · exact Or.inl (Or.inr ⟨j, j1, by omega, hj⟩)
/-- the pieces of a range around another one that lies in it -/
theorem acc_sub {l1 h1 m l h t : Int} {dn : Bool} (m1 : 1 ≤ m) (t1 : 1 ≤ t) (le : l ≤ h) (b1 : -1000000 ≤ l1) (b2 : h1 ≤ 1000000) (hl : Mem l1 h1 m l) (hh : Mem l1 h1 m h) (hd : t ∣ h - l) (hd1 : m ∣ h1 - l1) (ht : l < h → m ∣ t) (ht1 : ¬ l < h → t = 1) :
    Acc (fun n => Mem l1 h1 m n ∧ ¬ Mem l h t n) (subL l1 h1 m l h t dn) := by
  have x1 := hl.1
  have x2 := hh.2.1
  have front : Acc (fun n => Mem l1 (l - m) m n) (addP [] l1 (l - m) m dn) := by
    refine ((Acc.nil (P := fun _ => False) (fun _ h => h)).add l1 (l - m) m dn m1 ?_ (fun _ h => h.elim)).iff fun n => ⟨fun h => h.elim (fun f => f.elim) id, Or.inr⟩
    intro _
    obtain ⟨q, hq⟩ := hl.2.2
    exact ⟨⟨q - 1, by rw [Int.mul_sub, ← hq]; omega⟩, by omega, by omega⟩
  have kt : (subK t m : Int) * m < t := by
    unfold subK
    have h0 : 0 ≤ (t - 1) / m := Int.ediv_nonneg (by omega) (by omega)
    rw [show (((t - 1) / m).toNat : Int) = (t - 1) / m by omega]
    have := Int.ediv_mul_le (t - 1) (show m ≠ 0 by omega)
    omega
  have mid := front.mid (dn := dn) (k := subK t m) m1 t1 hd (by omega) (by omega) (fun n hn => by have := hn.2.1; omega) kt
  unfold subL
  refine (mid.add (h + m) h1 m dn m1 ?_ ?_).iff ?_
  · intro _
    obtain ⟨q, hq⟩ := hh.2.2
    obtain ⟨q1, hq1⟩ := hd1
    exact ⟨⟨q1 - q - 1, by rw [Int.mul_sub, Int.mul_sub, ← hq, ← hq1]; omega⟩, by omega, by omega⟩
  · rintro n (hn | ⟨j, j1, jk, hj⟩) hm
    · have := hn.2.1; have := hm.1; omega
    · have jm : (j : Int) * m ≤ (subK t m : Int) * m := mulr_a _ _ _ (by omega) (by omega)
      have := hj.2.1; have := hm.1; omega
  · intro n
    constructor
    · rintro ((hn | ⟨j, j1, jk, hj⟩) | hm)
      · exact ⟨⟨hn.1, by have := hn.2.1; omega, hn.2.2⟩, fun c => by have := c.1; have := hn.2.1; omega⟩
      · have lt : l < h := by
          by_cases c : l < h
          · exact c
          · have e := ht1 c
            rw [e] at kt
            have : 1 * m ≤ (subK t m : Int) * m := mulr_a _ _ _ (by omega) (by omega)
            rw [e] at this
            omega
        have jm : (j : Int) * m ≤ (subK t m : Int) * m := mulr_a _ _ _ (by omega) (by omega)
        have jm0 : 1 * m ≤ (j : Int) * m := mulr_a _ _ _ (by omega) (by omega)
        have y1 := hj.1
        have y2 := hj.2.1
        refine ⟨⟨by omega, by omega, ?_⟩, ?_⟩
        · have d1 : m ∣ n - (l + (j : Int) * m) := Int.dvd_trans (ht lt) hj.2.2
          have d2 : m ∣ (j : Int) * m := Int.dvd_mul_left _ _
          have := Int.dvd_add (Int.dvd_add d1 d2) hl.2.2
          rwa [show n - (l + (j : Int) * m) + (j : Int) * m + (l - l1) = n - l1 by omega] at this
        · intro c
          have := Int.dvd_sub c.2.2 hj.2.2
          rw [show n - l - (n - (l + (j : Int) * m)) = (j : Int) * m by omega] at this
          have := Int.le_of_dvd (by omega) this
          omega
      · refine ⟨⟨by have := hm.1; omega, hm.2.1, ?_⟩, fun c => by have := c.2.1; have := hm.1; omega⟩
        have := Int.dvd_add (Int.dvd_add hm.2.2 (Int.dvd_refl m)) hh.2.2
        rwa [show n - (h + m) + m + (h - l1) = n - l1 by omega] at this
    · rintro ⟨hm, hn⟩
      by_cases c1 : n < l
      · refine Or.inl (Or.inl ⟨hm.1, ?_, hm.2.2⟩)
        have d := Int.dvd_sub hl.2.2 hm.2.2
        rw [show l - l1 - (n - l1) = l - n by omega] at d
        have := Int.le_of_dvd (by omega) d
        omega
      · by_cases c2 : h < n
        · refine Or.inr ⟨?_, hm.2.1, ?_⟩
          · have d := Int.dvd_sub hm.2.2 hh.2.2
            rw [show n - l1 - (h - l1) = n - h by omega] at d
            have := Int.le_of_dvd (by omega) d
            omega
          · have := Int.dvd_sub (Int.dvd_sub hm.2.2 hh.2.2) (Int.dvd_refl m)
            rwa [show n - l1 - (h - l1) - m = n - (h + m) by omega] at this
        · have lt : l < h := by
            by_cases c : l < h
            · exact c
            · exact absurd ⟨by omega, by omega, by rw [show n - l = 0 by omega]; exact Int.dvd_zero _⟩ hn
          have dt := ht lt
          have dn' : m ∣ n - l := by
            have := Int.dvd_sub hm.2.2 hl.2.2
            rwa [show n - l1 - (l - l1) = n - l by omega] at this
          have r0 := Int.emod_nonneg (n - l) (show t ≠ 0 by omega)
          have r1 := Int.emod_lt_of_pos (n - l) (show 0 < t by omega)
          have re := Int.mul_ediv_add_emod (n - l) t
          have rn : ¬ (n - l) % t = 0 := fun e => hn ⟨by omega, by omega, Int.dvd_of_emod_eq_zero e⟩
          have dr : m ∣ (n - l) % t := by
            rw [Int.emod_def]
            exact Int.dvd_sub dn' (Int.dvd_trans dt (Int.dvd_mul_right _ _))
          obtain ⟨j, hj⟩ := dr
          have j0 : 1 ≤ j := by
            by_cases c : 1 ≤ j
            · exact c
            · have : m * j ≤ m * 0 := Int.mul_le_mul_of_nonneg_left (by omega) (by omega)
              omega
          have jk : j ≤ (t - 1) / m := (Int.le_ediv_iff_mul_le (by omega)).2 (by rw [Int.mul_comm]; omega)
          refine Or.inl (Or.inr ⟨j.toNat, by omega, by unfold subK; omega, ?_⟩)
          rw [show ((j.toNat : Nat) : Int) = j by omega, Int.mul_comm j m, ← hj]
          obtain ⟨Q, hQ⟩ := hd
          have lq : (n - l) / t < Q := by
            by_cases c : (n - l) / t < Q
            · exact c
            · have : t * Q ≤ t * ((n - l) / t) := Int.mul_le_mul_of_nonneg_left (by omega) (by omega)
              omega
          have : t * ((n - l) / t) ≤ t * (Q - 1) := Int.mul_le_mul_of_nonneg_left (by omega) (by omega)
          rw [Int.mul_sub] at this
          have q0 : 0 ≤ (n - l) / t := Int.ediv_nonneg (by omega) (by omega)
          have : 0 ≤ t * ((n - l) / t) := Int.mul_nonneg (by omega) q0
          exact ⟨by omega, by omega, ⟨(n - l) / t, by omega⟩⟩
/-- the pieces that Subtract returns have the numbers of the first range alone, each once -/
theorem sub_all {l1 h1 s1 l2 h2 s2 l h s : Int} (hA : chk l1 h1 s1 = 0) (hB : chk l2 h2 s2 = 0) (F : InterF l1 h1 s1 l2 h2 s2 l h s) :
    Acc (fun n => n ∈ (numsL l1 h1 s1).filter (fun n => !posB l2 h2 s2 n)) (subAll l1 h1 s1 l h s) := by
  obtain ⟨hC, hm, _⟩ := F
  have key : ∀ n, n ∈ (numsL l1 h1 s1).filter (fun n => !posB l2 h2 s2 n) ↔ RMem l1 h1 s1 n ∧ ¬ RMem l h s n := by
    intro n
    rw [List.mem_filter, nums_mem hA, hm n, ← posB_iff hB]
    cases posB l2 h2 s2 n <;> simp
  have bA := chk_bounds hA
  have bC := chk_bounds hC
  unfold subAll
  by_cases le : l ≤ h
  · rw [if_pos le]
    have ml := (hm l).1 (rmem_lo le)
    have mh := (hm h).1 (rmem_hi hC le)
    have le1 : l1 ≤ h1 := by have := ml.1.1; have := ml.1.2.1; omega
    refine (acc_sub (dn := decide (s1 < 0)) (by omega) (by omega) le (by omega) (by omega) ml.1 mh.1 ?_ ?_ ?_ ?_).iff fun n => (key n).symm
    · exact (rmem_hi hC le).2.2
    · exact (rmem_hi hA le1).2.2
    · intro lt
      have mn := (hm _).1 (rmem_next hC lt)
      have := Int.dvd_sub mn.1.2.2 ml.1.2.2
      rwa [show l + magA s - l1 - (l - l1) = magA s by omega] at this
    · intro lt
      rcases chk_zero hC with ⟨rfl, rfl, rfl⟩ | ⟨_, _, _, _, _, _, _, _, _, one⟩
      · omega
      · rw [one (by omega)]; rfl
  · rw [if_neg le]
    by_cases le1 : l1 ≤ h1
    · rw [if_pos le1]
      refine ⟨fun x hx => ?_, ?_, fun n => ?_⟩
      · rw [List.mem_singleton] at hx; subst hx; exact ⟨hA, le1⟩
      · simpa [numsAll] using nums_nodup hA
      · rw [key]
        simp only [numsAll, List.flatMap_cons, List.flatMap_nil, List.append_nil, nums_mem hA]
        exact ⟨fun h => ⟨h, rmem_none le⟩, fun h => h.1⟩
    · rw [if_neg le1]
      exact Acc.nil fun n hn => rmem_none le1 ((key n).1 hn).1
end Go.Proofs.Ytabgphlpdoockaa
namespace Go.Proofs.Ytabgphlpdoockaa
open Go.RowKit
/-- ranges with a step that does not fall -/
def Asc (P : List R3) : Prop := ∀ x ∈ P, ¬ x.2.2 < 0
theorem addP_asc {P : List R3} {lo hi st : Int} (h : Asc P) (hs : 0 ≤ st) : Asc (addP P lo hi st false) := by
  unfold addP
  split
  · intro x hx
    rcases List.mem_append.1 hx with hx | hx
    · exact h x hx
    · simp at hx; subst hx
      show ¬ nS lo hi st false < 0
      unfold nS
      split
      · omega
      · split
        · omega
        · simp; omega
  · exact h
theorem midN_asc {l h m t : Int} {P : List R3} (hP : Asc P) (ht : 0 ≤ t) : ∀ k, Asc (midN l h m t false P k)
  | 0 => hP
  | k + 1 => addP_asc (midN_asc hP ht k) ht
theorem subAll_asc {l1 h1 s1 l h s : Int} (hs : ¬ s1 < 0) : Asc (subAll l1 h1 s1 l h s) := by
  unfold subAll
  rw [show decide (s1 < 0) = false by simp; omega]
  split
  · unfold subL
    exact addP_asc (midN_asc (addP_asc (fun x hx => by cases hx) (magA_nonneg _)) (magA_nonneg _) _) (magA_nonneg _)
  · split
    · intro x hx; simp at hx; subst hx; exact hs
    · intro x hx; cases hx
/-- a piece is right, ascends, and has numbers -/
theorem piece_ok {L M : List R3} {i : Nat} {P : List R3} (hA : ∀ x ∈ L, chk x.1 x.2.1 x.2.2 = 0 ∧ ¬ x.2.2 < 0) (hB : ∀ x ∈ M, chk x.1 x.2.1 x.2.2 = 0 ∧ ¬ x.2.2 < 0) (h : SubsP L M i P) :
    ∀ r ∈ P, chk r.1 r.2.1 r.2.2 = 0 ∧ ¬ r.2.2 < 0 ∧ 1 ≤ siz r.1 r.2.1 r.2.2 := by
  obtain ⟨A, B, l, h, s, eA, eB, F, rfl⟩ := h
  have a := hA A (List.mem_of_getElem? eA)
  have b := hB B (List.mem_of_getElem? eB)
  intro r hr
  have ok := (sub_all a.1 b.1 F).ok r hr
  exact ⟨ok.1, subAll_asc a.2 r hr, size_num ok.1 ok.2⟩
theorem dchk_of {D : List R3} {k s h : Int} (hn : D.length = 1 ∨ D.length = 2) (hD : ∀ x ∈ D, chk x.1 x.2.1 x.2.2 = 0 ∧ ¬ x.2.2 < 0) (hp : plB k s h = true) : dchk D k s h = 0 := by
  unfold dchk
  rw [if_pos (by unfold rankB; simpa using hn)]
  have e : ∀ {D : List R3}, (∀ x ∈ D, chk x.1 x.2.1 x.2.2 = 0 ∧ ¬ x.2.2 < 0) → dimsE D = 0 := by
    intro D
    induction D with
    | nil => intro _; rfl
    | cons x D ih =>
      intro h
      have hx := h x List.mem_cons_self
      have : dimE x = 0 := by unfold dimE; rw [if_pos hx.1, if_neg hx.2]
      unfold dimsE
      rw [if_pos this]
      exact ih fun y hy => h y (List.mem_cons_of_mem _ hy)
  rw [if_pos (e hD), if_pos hp]
theorem interF_asc {A B x : R3} (hA : chk A.1 A.2.1 A.2.2 = 0 ∧ ¬ A.2.2 < 0) (f : InterF A.1 A.2.1 A.2.2 B.1 B.2.1 B.2.2 x.1 x.2.1 x.2.2) : chk x.1 x.2.1 x.2.2 = 0 ∧ ¬ x.2.2 < 0 := by
  refine ⟨f.1, fun hs => ?_⟩
  rcases chk_zero f.1 with ⟨_, _, e⟩ | ⟨_, le, _, _, _, _, _, _, _, q⟩
  · omega
  · by_cases lt : x.1 < x.2.1
    · exact hA.2 ((f.2.2 lt).1 hs)
    · have := q (by omega)
      omega
theorem meets_asc {L M C : List R3} (hA : ∀ x ∈ L, chk x.1 x.2.1 x.2.2 = 0 ∧ ¬ x.2.2 < 0) (hm : Meets L M C) : ∀ x ∈ C, chk x.1 x.2.1 x.2.2 = 0 ∧ ¬ x.2.2 < 0 := fun x hx => by
  obtain ⟨i, hi, e⟩ := List.getElem_of_mem hx
  obtain ⟨A, B, hA', _, f⟩ := hm.2 i x (by rw [← e]; exact List.getElem?_eq_getElem hi)
  exact interF_asc (hA A (List.mem_of_getElem? hA')) f
set_option maxRecDepth 100000 in
set_option maxHeartbeats 3200000 in
theorem rprod_add (base : Nat) (l : Value) (Ds : List (List R3)) (k s h : Int) (u : Value) (D : List R3) (B : Nat) (w : World) (hO : OwnD base w l Ds k s h) (hU : w.ownsRow B 23 3 u D.length (cells3 D)) (hB : base ≤ B) (hk : Ok3 D) (hck : Hid (dchk D k s h = 0)) (hne : Hid (¬ prodL D = 0)) (hb : base ≤ w.heap.size) (hn : Ds.length ≤ 5000) :
    Calls Try.prog 155 #[l, .agg #[.int .i64 k, .int .i64 s, .int .i64 h], u] w fun e w' => ∃ v', e = .returned v' ∧ Below base w w' ∧ Hid (OwnD base w' v' (Ds ++ [D]) k s h) ∧
      Hid (∀ (b : Nat) (u : Value) (n : Nat) (xs : List Value), w.ownsRow b 23 3 u n xs → w'.ownsRow b 23 3 u n xs) := by
  obtain ⟨us, eu, ru, xu⟩ := hO
  obtain ⟨la, lc, rfl⟩ := owns_slice ru
  obtain ⟨ua, uc, rfl⟩ := owns_slice hU
  obtain ⟨i1, ji, jz0, jz1, jz2⟩ := info_parts Try.infoDomain
  have RU := Lib.hid ru
  have XU := Lib.hid xu
  have EU := Lib.hid eu
  have HU := Lib.hid hU
  have HK := Lib.hid hk
  have ul : us.length ≤ 5000 := by omega
  clear ru xu eu hU hk hn
  go_enter Try.func155, Try.ntmps155
  go_wp2_with fail
  have n1 := below_new w (.cells #[.int .i64 k, .int .i64 s, .int .i64 h] 60)
  have n2 := below_new (w.alloc (.cells #[.int .i64 k, .int .i64 s, .int .i64 h] 60)) (.cells #[.slice ua D.length uc, .int .i64 k, .int .i64 s, .int .i64 h] 62)
  have K0 := Blk.new (.slice ua D.length uc) (.int .i64 k) (.int .i64 s) (.int .i64 h) 62 (w.alloc (.cells #[.int .i64 k, .int .i64 s, .int .i64 h] 60))
  have z1 : (w.alloc (.cells #[.int .i64 k, .int .i64 s, .int .i64 h] 60)).heap.size = w.heap.size + 1 := by simp
  have N0 := Lib.hid (n1.trans (n2.mono (by omega)))
  rw [z1] at K0
  clear n1 n2 z1
  refine (rDsize_any _ D k s h _ ((Rd.of_own HU.out).keep N0.out) HK.out).mono ?_
  rintro e w1 ⟨rfl, hb1⟩
  have N1 := Lib.hid (N0.out.trans (hb1.mono N0.out.size))
  have K1 := Lib.hid (K0.keep hb1)
  clear hb1 K0 N0
  have c' : (dsiz D k s h == 0) = false := by unfold dsiz; rw [if_pos hck.out]; simp; exact hne.out
  have x0 := K1.out.c0
  have x1 := K1.out.c1
  have x2 := K1.out.c2
  have x3 := K1.out.c3
  have sz := N1.out.size
  go_wp2_with (first | (at_builtin; refine wpList_append_own _ rfl (.tmp 15) (.tmp 17) 77 rfl base 62 i1 (.agg #[.slice none 0 0, .int .i64 0, .int .i64 0, .int .i64 0]) 4 48 Try.underlying77 ji jz0 jz1 jz2 rfl (by decide) _ us.length (cells4 us k s h) rfl ((owns_below RU.out N1.out).alloc _) ⟨w1.heap.size, 0, none⟩ 1 1 (cells4 [.slice ua D.length uc] k s h) rfl rfl ?d1 ?d2 ?d3 ?d4 ?d5 ?_))
  case d1 => exact World.news_of_block (cs := #[.slice ua D.length uc, .int .i64 k, .int .i64 s, .int .i64 h]) (t := 62) (fr := (0, 0)) (heap_alloc_new w1 _)
  case d2 => intro u hu; simp [cells4] at hu; rcases hu with rfl | rfl | rfl | rfl <;> rfl
  case d3 => unfold maxLen; omega
  case d4 => omega
  case d5 => simp; omega
  intro v11 w11 own11 grow11 _
  have b11 : Hid (Below base w w11) := Lib.hid (((N1.out.mono hb).trans ((Below.refl _ _).alloc (by omega) _)).trans ((Below.refl _ _).grown grow11 (by simp; omega) (fun g hg => ((owns_below RU.out N1.out).lt g hg).1)))
  have OD11 : Hid (OwnD base w11 v11 (Ds ++ [D]) k s h) := Lib.hid (OwnD.add EU.out (owns_below RU.out N1.out) (fun j u D hu hD => owns_below (XU.out j u D hu hD) N1.out) (owns_base (owns_below HU.out N1.out) hB) own11 grow11)
  have KR : Hid (∀ (b : Nat) (u : Value) (n : Nat) (xs : List Value), w.ownsRow b 23 3 u n xs → w11.ownsRow b 23 3 u n xs) := Lib.hid (fun b u n xs hx => owns_kept ((owns_below hx N1.out).alloc _) ((owns_below RU.out N1.out).alloc _) grow11)
  clear own11 grow11 x0 x1 x2 x3 sz
  go_wp2
  exact bodyPost_ret (v := v11) (by simp [results, Try.results155, go_sem, *]) rfl ⟨_, rfl, b11.out, OD11, KR⟩
set_option maxRecDepth 100000 in
theorem rprod_none (l : Value) (k s h : Int) (u : Value) (D : List R3) (w : World) (hl : ∃ a n c, l = .slice a n c) (hr : Rd w u D) (hk : Ok3 D) (hz : Hid (dsiz D k s h = 0)) :
    Calls Try.prog 155 #[l, .agg #[.int .i64 k, .int .i64 s, .int .i64 h], u] w fun e w' => e = .returned l ∧ Below w.heap.size w w' := by
  obtain ⟨la, ll, lc, rfl⟩ := hl
  obtain ⟨ua, uc, rfl, hu⟩ := hr
  have HU : Hid (Rd w (.slice ua D.length uc) D) := Lib.hid ⟨ua, uc, rfl, hu⟩
  have HK := Lib.hid hk
  clear hu hk
  go_enter Try.func155, Try.ntmps155
  go_wp2_with fail
  have n1 := below_new w (.cells #[.int .i64 k, .int .i64 s, .int .i64 h] 60)
  have n2 := below_new (w.alloc (.cells #[.int .i64 k, .int .i64 s, .int .i64 h] 60)) (.cells #[.slice ua D.length uc, .int .i64 k, .int .i64 s, .int .i64 h] 62)
  have N0 := Lib.hid (n1.trans (n2.mono (by simp)))
  clear n1 n2
  refine (rDsize_any _ D k s h _ (HU.out.keep N0.out) HK.out).mono ?_
  rintro e w1 ⟨rfl, hb1⟩
  have N1 := Lib.hid (N0.out.trans (hb1.mono N0.out.size))
  clear hb1 N0
  have c' : (dsiz D k s h == 0) = true := by rw [hz.out]; rfl
  go_wp2
  exact bodyPost_ret (v := .slice la ll lc) (by simp [results, Try.results155, go_sem, *]) rfl ⟨rfl, N1.out⟩
end Go.Proofs.Ytabgphlpdoockaa
