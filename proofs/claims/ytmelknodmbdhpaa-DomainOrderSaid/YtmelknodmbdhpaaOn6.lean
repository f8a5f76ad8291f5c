/-
  Part 6: DomA, DomB, DomC, DomD.
-/
import Derived.Test.YtmelknodmbdhpaaOn5
import Derived.BigQuiet
import Derived.Deep.CutBlock
import Derived.Deep.DeepCutAuto
import Derived.Deep.DrawnRows
import Derived.Deep.LoopGhost
import Derived.Deep.QuietTactic
import Derived.Deep.RegionHeld3
import Derived.Deep.RegionWith
import Derived.Lib.Hide
import Derived.RangeFuncBox
import Derived.WalkKit
import Derived.WalkLawsBesides
import Derived.WalkMore
import Derived.WalkSpells
namespace Go.Proofs.Ytmelknodmbdhpaa
open Go.RowKit
/-- a slice of ranges reads as a list -/
def Rd (w : World) (v : Value) (L : List R3) : Prop := ∃ (ao : Option Addr) (cap : Nat), v = .slice ao L.length cap ∧ (L.length = 0 ∨ ∃ b o : Nat, ao = some ⟨b, o, none⟩ ∧ b < w.heap.size ∧
  ∀ (j : Nat) (x : R3), L[j]? = some x → w.cell? ⟨b, o + j * 3, none⟩ = some (.int .i64 x.1) ∧ w.cell? ⟨b, o + j * 3 + 1, none⟩ = some (.int .i64 x.2.1) ∧ w.cell? ⟨b, o + j * 3 + 2, none⟩ = some (.int .i64 x.2.2))
theorem Rd.keep {w w' : World} {v : Value} {L : List R3} (r : Rd w v L) (hb : Below w.heap.size w w') : Rd w' v L := by
  obtain ⟨ao, cap, e, h⟩ := r
  refine ⟨ao, cap, e, h.elim Or.inl fun ⟨b, o, e2, hlt, hc⟩ => Or.inr ⟨b, o, e2, Nat.lt_of_lt_of_le hlt hb.size, fun j x hx => ?_⟩⟩
  obtain ⟨c0, c1, c2⟩ := hc j x hx
  exact ⟨(hb.cell (p := ⟨b, o + j * 3, none⟩) hlt).trans c0, (hb.cell (p := ⟨b, o + j * 3 + 1, none⟩) hlt).trans c1, (hb.cell (p := ⟨b, o + j * 3 + 2, none⟩) hlt).trans c2⟩
theorem Rd.of_own {w : World} {base : Nat} {v : Value} {L : List R3} (h : w.ownsRow base 23 3 v L.length (cells3 L)) : Rd w v L := by
  obtain ⟨ao, cap, rfl⟩ := owns_slice h
  refine ⟨ao, cap, rfl, ?_⟩
  by_cases z : L.length = 0
  · exact Or.inl z
  · obtain ⟨g, rfl⟩ := owns_addr h z
    refine Or.inr ⟨g, 0, rfl, (h.lt g rfl).2, fun j x hx => ?_⟩
    rw [Nat.zero_add]
    exact owns_at h j x hx
/-- the ints of a list of ranges are ints -/
def Ok3 (L : List R3) : Prop := ∀ x ∈ L, I64 x.1 ∧ I64 x.2.1 ∧ I64 x.2.2
def rankB (n : Nat) : Bool := decide (n = 1) || decide (n = 2)
theorem ranked_any (ao : Option Addr) (n cap : Nat) (w : World) :
    Calls Try.prog 138 #[.slice ao n cap] w fun e w' => e = .returned (.bool (rankB n)) ∧ w = w' := by
  by_cases c1 : n = 1
  · subst c1
    go_enter Try.func138, Try.ntmps138
    go_wp2
    go_ret
    exact ⟨rfl, rfl⟩
  · by_cases c2 : n = 2
    · subst c2
      go_enter Try.func138, Try.ntmps138
      go_wp2
      go_ret
      exact ⟨rfl, rfl⟩
    · have e : Hid (rankB n = false) := Lib.hid (by unfold rankB; simp [c1, c2])
      have d1 : ((n : Int) == 1) = false := by simp; omega
      have d2 : ((n : Int) == 2) = false := by simp; omega
      clear c1 c2
      go_enter Try.func138, Try.ntmps138
      go_wp2
      rw [e.out]
      exact bodyPost_ret (v := .bool false) (by simp [results, Try.results138, go_sem, *]) rfl ⟨rfl, rfl⟩
/-- whether a map is right -/
def plB (k s h : Int) : Bool :=
  if k = 0 then decide (s = 0) && (decide (0 ≤ h) && decide (h < 8))
  else if k = 1 ∨ k = 2 ∨ k = 4 then decide (s = 0) && decide (h = 0)
  else if k = 3 then decide (1 ≤ s) && (decide (s ≤ 1000) && decide (h = 0)) else false
def PlRet (k s h : Int) (w : World) : Ending → World → Prop := fun e w' => e = .returned (.bool (plB k s h)) ∧ Below w.heap.size w w'
theorem pl_of {k s h : Int} {b : Bool} {w w' : World} (e : plB k s h = b) (hb : Below w.heap.size w w') : PlRet k s h w (.returned (.bool b)) w' := ⟨by rw [e], hb⟩
set_option maxHeartbeats 3200000 in
theorem placed_any (k s h : Int) (w : World) : Calls Try.prog 144 #[.agg #[.int .i64 k, .int .i64 s, .int .i64 h]] w (PlRet k s h w) := by
  by_cases k0 : k = 0
  · subst k0
    by_cases s0 : s = 0
    · have s0' : (s == 0) = true := by simp [s0]
      by_cases h0 : 0 ≤ h
      · have h0' : decide (0 ≤ h) = true := by simp [h0]
        by_cases h1 : h < 8
        · have h1' : decide (h < 8) = true := by simp [h1]
          have E : Hid (plB 0 s h = true) := Lib.hid (by unfold plB; simp [*])
          clear s0
          go_enter Try.func144, Try.ntmps144
          go_wp2
          refine bodyPost_ret (v := .bool true) (by simp [results, Try.results144, go_sem, *]) rfl (pl_of E.out ?_)
          repeat (first | exact Below.refl _ _ | refine Below.alloc ?_ (by simp; try omega) _ | refine Below.setCell ?_ (by simp; try omega) _)
        · have h1' : decide (h < 8) = false := by simp [h1]
          have E : Hid (plB 0 s h = false) := Lib.hid (by unfold plB; simp [*])
          clear s0
          go_enter Try.func144, Try.ntmps144
          go_wp2
          refine bodyPost_ret (v := .bool false) (by simp [results, Try.results144, go_sem, *]) rfl (pl_of E.out ?_)
          repeat (first | exact Below.refl _ _ | refine Below.alloc ?_ (by simp; try omega) _ | refine Below.setCell ?_ (by simp; try omega) _)
      · have h0' : decide (0 ≤ h) = false := by simp [h0]
        have E : Hid (plB 0 s h = false) := Lib.hid (by unfold plB; simp [*])
        clear s0
        go_enter Try.func144, Try.ntmps144
        go_wp2
        refine bodyPost_ret (v := .bool false) (by simp [results, Try.results144, go_sem, *]) rfl (pl_of E.out ?_)
        repeat (first | exact Below.refl _ _ | refine Below.alloc ?_ (by simp; try omega) _ | refine Below.setCell ?_ (by simp; try omega) _)
    · have s0' : (s == 0) = false := by simp [s0]
      have E : Hid (plB 0 s h = false) := Lib.hid (by unfold plB; simp [*])
      go_enter Try.func144, Try.ntmps144
      go_wp2
      refine bodyPost_ret (v := .bool false) (by simp [results, Try.results144, go_sem, *]) rfl (pl_of E.out ?_)
      repeat (first | exact Below.refl _ _ | refine Below.alloc ?_ (by simp; try omega) _ | refine Below.setCell ?_ (by simp; try omega) _)
  · have k0' : (k == 0) = false := by simp [k0]
    by_cases k1 : k = 1
    · subst k1
      by_cases s0 : s = 0
      · have s0' : (s == 0) = true := by simp [s0]
        by_cases h0 : h = 0
        · have h0' : (h == 0) = true := by simp [h0]
          have E : Hid (plB 1 s h = true) := Lib.hid (by unfold plB; simp [*])
          clear s0 h0
          go_enter Try.func144, Try.ntmps144
          go_wp2
          refine bodyPost_ret (v := .bool true) (by simp [results, Try.results144, go_sem, *]) rfl (pl_of E.out ?_)
          repeat (first | exact Below.refl _ _ | refine Below.alloc ?_ (by simp; try omega) _ | refine Below.setCell ?_ (by simp; try omega) _)
        · have h0' : (h == 0) = false := by simp [h0]
          have E : Hid (plB 1 s h = false) := Lib.hid (by unfold plB; simp [*])
          clear s0
          go_enter Try.func144, Try.ntmps144
          go_wp2
          refine bodyPost_ret (v := .bool false) (by simp [results, Try.results144, go_sem, *]) rfl (pl_of E.out ?_)
          repeat (first | exact Below.refl _ _ | refine Below.alloc ?_ (by simp; try omega) _ | refine Below.setCell ?_ (by simp; try omega) _)
      · have s0' : (s == 0) = false := by simp [s0]
        have E : Hid (plB 1 s h = false) := Lib.hid (by unfold plB; simp [*])
        go_enter Try.func144, Try.ntmps144
        go_wp2
        refine bodyPost_ret (v := .bool false) (by simp [results, Try.results144, go_sem, *]) rfl (pl_of E.out ?_)
        repeat (first | exact Below.refl _ _ | refine Below.alloc ?_ (by simp; try omega) _ | refine Below.setCell ?_ (by simp; try omega) _)
    · have k1' : (k == 1) = false := by simp [k1]
      by_cases k2 : k = 2
      · subst k2
        by_cases s0 : s = 0
        · have s0' : (s == 0) = true := by simp [s0]
          by_cases h0 : h = 0
          · have h0' : (h == 0) = true := by simp [h0]
            have E : Hid (plB 2 s h = true) := Lib.hid (by unfold plB; simp [*])
            clear s0 h0
            go_enter Try.func144, Try.ntmps144
            go_wp2
            refine bodyPost_ret (v := .bool true) (by simp [results, Try.results144, go_sem, *]) rfl (pl_of E.out ?_)
            repeat (first | exact Below.refl _ _ | refine Below.alloc ?_ (by simp; try omega) _ | refine Below.setCell ?_ (by simp; try omega) _)
          · have h0' : (h == 0) = false := by simp [h0]
            have E : Hid (plB 2 s h = false) := Lib.hid (by unfold plB; simp [*])
            clear s0
            go_enter Try.func144, Try.ntmps144
            go_wp2
            refine bodyPost_ret (v := .bool false) (by simp [results, Try.results144, go_sem, *]) rfl (pl_of E.out ?_)
            repeat (first | exact Below.refl _ _ | refine Below.alloc ?_ (by simp; try omega) _ | refine Below.setCell ?_ (by simp; try omega) _)
        · have s0' : (s == 0) = false := by simp [s0]
          have E : Hid (plB 2 s h = false) := Lib.hid (by unfold plB; simp [*])
          go_enter Try.func144, Try.ntmps144
          go_wp2
          refine bodyPost_ret (v := .bool false) (by simp [results, Try.results144, go_sem, *]) rfl (pl_of E.out ?_)
          repeat (first | exact Below.refl _ _ | refine Below.alloc ?_ (by simp; try omega) _ | refine Below.setCell ?_ (by simp; try omega) _)
      · have k2' : (k == 2) = false := by simp [k2]
        by_cases k4 : k = 4
        · subst k4
          by_cases s0 : s = 0
          · have s0' : (s == 0) = true := by simp [s0]
            by_cases h0 : h = 0
            · have h0' : (h == 0) = true := by simp [h0]
              have E : Hid (plB 4 s h = true) := Lib.hid (by unfold plB; simp [*])
              clear s0 h0
              go_enter Try.func144, Try.ntmps144
              go_wp2
              refine bodyPost_ret (v := .bool true) (by simp [results, Try.results144, go_sem, *]) rfl (pl_of E.out ?_)
              repeat (first | exact Below.refl _ _ | refine Below.alloc ?_ (by simp; try omega) _ | refine Below.setCell ?_ (by simp; try omega) _)
            · have h0' : (h == 0) = false := by simp [h0]
              have E : Hid (plB 4 s h = false) := Lib.hid (by unfold plB; simp [*])
              clear s0
              go_enter Try.func144, Try.ntmps144
              go_wp2
              refine bodyPost_ret (v := .bool false) (by simp [results, Try.results144, go_sem, *]) rfl (pl_of E.out ?_)
              repeat (first | exact Below.refl _ _ | refine Below.alloc ?_ (by simp; try omega) _ | refine Below.setCell ?_ (by simp; try omega) _)
          · have s0' : (s == 0) = false := by simp [s0]
            have E : Hid (plB 4 s h = false) := Lib.hid (by unfold plB; simp [*])
            go_enter Try.func144, Try.ntmps144
            go_wp2
            refine bodyPost_ret (v := .bool false) (by simp [results, Try.results144, go_sem, *]) rfl (pl_of E.out ?_)
            repeat (first | exact Below.refl _ _ | refine Below.alloc ?_ (by simp; try omega) _ | refine Below.setCell ?_ (by simp; try omega) _)
        · have k4' : (k == 4) = false := by simp [k4]
          by_cases k3 : k = 3
          · subst k3
            by_cases s0 : 1 ≤ s
            · have s0' : decide (1 ≤ s) = true := by simp [s0]
              by_cases s1 : s ≤ 1000
              · have s1' : decide (s ≤ 1000) = true := by simp [s1]
                by_cases h0 : h = 0
                · have h0' : (h == 0) = true := by simp [h0]
                  have E : Hid (plB 3 s h = true) := Lib.hid (by unfold plB; simp [*])
                  clear h0
                  go_enter Try.func144, Try.ntmps144
                  go_wp2
                  refine bodyPost_ret (v := .bool true) (by simp [results, Try.results144, go_sem, *]) rfl (pl_of E.out ?_)
                  repeat (first | exact Below.refl _ _ | refine Below.alloc ?_ (by simp; try omega) _ | refine Below.setCell ?_ (by simp; try omega) _)
                · have h0' : (h == 0) = false := by simp [h0]
                  have E : Hid (plB 3 s h = false) := Lib.hid (by unfold plB; simp [*])
                  go_enter Try.func144, Try.ntmps144
                  go_wp2
                  refine bodyPost_ret (v := .bool false) (by simp [results, Try.results144, go_sem, *]) rfl (pl_of E.out ?_)
                  repeat (first | exact Below.refl _ _ | refine Below.alloc ?_ (by simp; try omega) _ | refine Below.setCell ?_ (by simp; try omega) _)
              · have s1' : decide (s ≤ 1000) = false := by simp [s1]
                have E : Hid (plB 3 s h = false) := Lib.hid (by unfold plB; simp [*])
                go_enter Try.func144, Try.ntmps144
                go_wp2
                refine bodyPost_ret (v := .bool false) (by simp [results, Try.results144, go_sem, *]) rfl (pl_of E.out ?_)
                repeat (first | exact Below.refl _ _ | refine Below.alloc ?_ (by simp; try omega) _ | refine Below.setCell ?_ (by simp; try omega) _)
            · have s0' : decide (1 ≤ s) = false := by simp [s0]
              have E : Hid (plB 3 s h = false) := Lib.hid (by unfold plB; simp [*])
              go_enter Try.func144, Try.ntmps144
              go_wp2
              refine bodyPost_ret (v := .bool false) (by simp [results, Try.results144, go_sem, *]) rfl (pl_of E.out ?_)
              repeat (first | exact Below.refl _ _ | refine Below.alloc ?_ (by simp; try omega) _ | refine Below.setCell ?_ (by simp; try omega) _)
          · have k3' : (k == 3) = false := by simp [k3]
            have E : Hid (plB k s h = false) := Lib.hid (by unfold plB; simp [*])
            go_enter Try.func144, Try.ntmps144
            go_wp2
            refine bodyPost_ret (v := .bool false) (by simp [results, Try.results144, go_sem, *]) rfl (pl_of E.out ?_)
            repeat (first | exact Below.refl _ _ | refine Below.alloc ?_ (by simp; try omega) _ | refine Below.setCell ?_ (by simp; try omega) _)
end Go.Proofs.Ytmelknodmbdhpaa
namespace Go.Proofs.Ytmelknodmbdhpaa
open Go.RowKit
/-- the error of a range as a dimension -/
def dimE (x : R3) : Int := if chk x.1 x.2.1 x.2.2 = 0 then (if x.2.2 < 0 then 2 else 0) else chk x.1 x.2.1 x.2.2
/-- the first error of dimensions -/
def dimsE : List R3 → Int
  | [] => 0
  | x :: L => if dimE x = 0 then dimsE L else dimE x
/-- the error of a domain -/
def dchk (L : List R3) (k s h : Int) : Int := if rankB L.length = true then (if dimsE L = 0 then (if plB k s h = true then 0 else 2) else dimsE L) else 5
theorem dimsE_take {L : List R3} {j : Nat} {x : R3} (hx : L[j]? = some x) (h0 : dimsE (L.take j) = 0) : (dimE x = 0 → dimsE (L.take (j + 1)) = 0) ∧ (¬ dimE x = 0 → dimsE L = dimE x) := by
  induction L generalizing j with
  | nil => simp at hx
  | cons y L ih =>
    cases j with
    | zero =>
      simp at hx
      subst hx
      exact ⟨fun h => by simp [dimsE, h], fun h => by simp [dimsE, h]⟩
    | succ j =>
      have hx' : L[j]? = some x := by simpa using hx
      rw [List.take_succ_cons] at h0
      unfold dimsE at h0
      by_cases c : dimE y = 0
      · rw [if_pos c] at h0
        have := ih hx' h0
        refine ⟨fun h => ?_, fun h => ?_⟩
        · rw [List.take_succ_cons]; unfold dimsE; rw [if_pos c]; exact this.1 h
        · unfold dimsE; rw [if_pos c]; exact this.2 h
      · rw [if_neg c] at h0; exact absurd h0 c
/-- the box of a domain, and that old memory lies as it lay -/
structure DSt (w : World) (v : Value) (k s h : Int) (w' : World) : Prop where
  below : Below w.heap.size w w'
  d : Blk w.heap.size v (.int .i64 k) (.int .i64 s) (.int .i64 h) w'
theorem DSt.keep {w : World} {v : Value} {k s h : Int} {wa wb : World} (t : DSt w v k s h wa) (hb : Below wa.heap.size wa wb) : DSt w v k s h wb :=
  ⟨t.below.trans (hb.mono t.below.size), t.d.keep hb⟩
set_option maxRecDepth 100000 in
set_option maxHeartbeats 3200000 in
theorem Dcheck_any (v : Value) (L : List R3) (k s h : Int) (w : World) (hr : Rd w v L) (hL : Ok3 L) :
    Calls Try.prog 67 #[.agg #[v, .int .i64 k, .int .i64 s, .int .i64 h]] w fun e w' => e = .returned (.int .i64 (dchk L k s h)) ∧ Below w.heap.size w w' := by
  obtain ⟨ao, cap, rfl, hc⟩ := hr
  have HC := Lib.hid hc
  have HL := Lib.hid hL
  clear hc hL
  go_enter Try.func67, Try.ntmps67
  go_wp2_with fail
  go_step3
  go_wp2_with fail
  refine (ranked_any _ _ _ _).mono ?_
  rintro e w' ⟨rfl, rfl⟩
  cases hq : rankB L.length
  · have E : Hid (dchk L k s h = 5) := Lib.hid (by unfold dchk; rw [hq]; rfl)
    clear hq
    go_wp2
    (try rw [Exit.noGoto_ret])
    refine bodyPost_ret (v := .int .i64 5) (by simp [results, Try.results67, go_sem, *]) rfl ⟨by rw [E.out], ?_⟩
    exact below_new _ _
  · have HQ := Lib.hid hq
    clear hq
    go_wp2_with fail
    go_step3
    have hn : L.length = 1 ∨ L.length = 2 := by have := HQ.out; unfold rankB at this; simpa using this
    obtain ⟨b, o, rfl, hb, hcell⟩ := HC.out.resolve_left (by omega)
    have CL := Lib.hid hcell
    have HN := Lib.hid hn
    clear hcell hn HC
    have D0 : Hid (DSt w (.slice (some ⟨b, o, none⟩) L.length cap) k s h (w.alloc (.cells #[.slice (some ⟨b, o, none⟩) L.length cap, .int .i64 k, .int .i64 s, .int .i64 h] 62))) := Lib.hid ⟨below_new _ _, Blk.new _ _ _ _ _ _⟩
    go_upto_block 0 with fail
    go_cut [3] (fun v wx => v = .int .i64 (dimsE L) ∧ Hid (DSt w (.slice (some ⟨b, o, none⟩) L.length cap) k s h wx))
    case first =>
      go_wp2_with fail
      go_loopg [3, 5, 13, 19, 22] (L.length + 1) (fun gh v3 _ v13 _ _ wr => ∃ j : Nat, v13 = .int .i64 j ∧ v3 = .int .i64 0 ∧ (j ≤ L.length ∧ L.length - j < gh) ∧ Hid (dimsE (L.take j) = 0) ∧ Hid (DSt w (.slice (some ⟨b, o, none⟩) L.length cap) k s h wr))
      case atStart => exact ⟨0, rfl, rfl, ⟨by omega, by omega⟩, Lib.hid rfl, D0⟩
      case round =>
        obtain ⟨j, rfl, rfl, ⟨j0, jg⟩, hz, D1⟩ := hrel
        have KG := Lib.hid jg
        clear jg
        by_cases hj : j < L.length
        · obtain ⟨x, hx⟩ : ∃ x, L[j]? = some x := ⟨L[j], List.getElem?_eq_getElem hj⟩
          obtain ⟨q0, q1, q2⟩ := CL.out j x hx
          have p0 := (D1.out.below.cell (p := ⟨b, o + j * 3, none⟩) hb).trans q0
          have p1 := (D1.out.below.cell (p := ⟨b, o + j * 3 + 1, none⟩) hb).trans q1
          have p2 := (D1.out.below.cell (p := ⟨b, o + j * 3 + 2, none⟩) hb).trans q2
          have ox := HL.out x (List.mem_of_getElem? hx)
          have DT := Lib.hid (dimsE_take hx hz.out)
          have n2 : (L.length : Int) ≤ 2 := by have := HN.out; omega
          clear q0 q1 q2 hx
          go_wp2_with fail
          refine (check64 x.1 x.2.1 x.2.2 _ ox.1 ox.2.1 ox.2.2).mono ?_
          rintro e w2 ⟨rfl, hb2⟩
          have R2 := res1b hb2
          have D2 := Lib.hid (D1.out.keep R2.1)
          have X2 := Lib.hid R2.2
          clear hb2 R2 D1 p0 p1 p2
          have x2 := X2.out.c2
          have jw : IntKind.i64.wrap ((j : Int) + 1) = (j : Int) + 1 := IntWalk.i64_in _ (by omega)
          by_cases c : chk x.1 x.2.1 x.2.2 = 0
          · by_cases c2 : x.2.2 < 0
            · have e : dimE x = 2 := by unfold dimE; rw [if_pos c, if_pos c2]
              have E : Hid (dimsE L = 2) := Lib.hid (by rw [DT.out.2 (by omega), e])
              have c' : (chk x.1 x.2.1 x.2.2 != 0) = false := by simp [c]
              clear c e DT
              go_wp2_with fail
              go_meet
              exact ⟨by rw [E.out], D2⟩
            · have e : dimE x = 0 := by unfold dimE; rw [if_pos c, if_neg c2]
              have E : Hid (dimsE (L.take (j + 1)) = 0) := Lib.hid (DT.out.1 e)
              have c' : (chk x.1 x.2.1 x.2.2 != 0) = false := by simp [c]
              have C := Lib.hid c
              clear c e DT
              go_wp2_with fail
              go_roundg (L.length - j)
              case measure => exact KG.out
              case rel => exact ⟨j + 1, by go_num, by rw [C.out], ⟨by omega, by omega⟩, E, D2⟩
          · have e : dimE x = chk x.1 x.2.1 x.2.2 := by unfold dimE; rw [if_neg c]
            have E : Hid (dimsE L = chk x.1 x.2.1 x.2.2) := Lib.hid (by rw [DT.out.2 (by omega), e])
            have c' : (chk x.1 x.2.1 x.2.2 != 0) = true := by simp [c]
            clear c e DT
            go_wp2_with fail
            go_meet
            exact ⟨by rw [E.out], D2⟩
        · obtain rfl : j = L.length := by omega
          have E : Hid (dimsE L = 0) := Lib.hid (by have := hz.out; rwa [List.take_length] at this)
          go_wp2_with fail
          go_meet
          exact ⟨by rw [E.out], D1⟩
    case rest =>
      obtain ⟨rfl, D1⟩ := hcut
      clear D0
      have y1 := D1.out.d.c1
      have y2 := D1.out.d.c2
      have y3 := D1.out.d.c3
      by_cases c : dimsE L = 0
      · have c' : (dimsE L == 0) = true := by simp [c]
        have C := Lib.hid c
        clear c
        go_wp2_with fail
        refine (placed_any _ _ _ _).mono ?_
        rintro e w2 ⟨rfl, hb2⟩
        have D2 := Lib.hid (D1.out.keep hb2)
        clear hb2 D1 y1 y2 y3
        cases hp : plB k s h
        · have E : Hid (dchk L k s h = 2) := Lib.hid (by unfold dchk; rw [HQ.out, if_pos rfl, if_pos C.out, hp]; rfl)
          clear hp
          go_wp2
          (try rw [Exit.noGoto_ret])
          exact bodyPost_ret (v := .int .i64 2) (by simp [results, Try.results67, go_sem, *]) rfl ⟨by rw [E.out], D2.out.below⟩
        · have E : Hid (dchk L k s h = dimsE L) := Lib.hid (by unfold dchk; rw [HQ.out, if_pos rfl, if_pos C.out, hp, C.out]; rfl)
          clear hp
          go_wp2
          (try rw [Exit.noGoto_ret])
          exact bodyPost_ret (v := .int .i64 (dimsE L)) (by simp [results, Try.results67, go_sem, *]) rfl ⟨by rw [E.out], D2.out.below⟩
      · have c' : (dimsE L == 0) = false := by simp [c]
        have E : Hid (dchk L k s h = dimsE L) := Lib.hid (by unfold dchk; rw [HQ.out, if_pos rfl, if_neg c])
        clear c
        go_wp2
        (try rw [Exit.noGoto_ret])
        exact bodyPost_ret (v := .int .i64 (dimsE L)) (by simp [results, Try.results67, go_sem, *]) rfl ⟨by rw [E.out], D1.out.below⟩
end Go.Proofs.Ytmelknodmbdhpaa
namespace Go.Proofs.Ytmelknodmbdhpaa
open Go.RowKit
/-- the number of indices of ranges -/
def prodL : List R3 → Int
  | [] => 1
  | [x] => siz x.1 x.2.1 x.2.2
  | x :: y :: _ => siz x.1 x.2.1 x.2.2 * siz y.1 y.2.1 y.2.2
theorem siz_bdA (l h s : Int) : 0 ≤ siz l h s ∧ siz l h s ≤ 2000001 := by
  by_cases c : chk l h s = 0
  · exact siz_bdn c
  · have : siz l h s = 0 := if_neg (fun e => c e.1)
    omega
theorem prod_two (a b : Int) (a0 : 0 ≤ a) (a1 : a ≤ 2000001) (b0 : 0 ≤ b) (b1 : b ≤ 2000001) : 0 ≤ a * b ∧ a * b ≤ 4000004000001 := by
  have h1 : 0 ≤ a * b := Int.mul_nonneg a0 b0
  have h2 : a * b ≤ 2000001 * b := Int.mul_le_mul_of_nonneg_right a1 b0
  omega
theorem prodL_bd (L : List R3) : 0 ≤ prodL L ∧ prodL L ≤ 4000004000001 := by
  match L with
  | [] => simp [prodL]
  | [x] => have := siz_bdA x.1 x.2.1 x.2.2; simp only [prodL]; omega
  | x :: y :: _ =>
    have h1 := siz_bdA x.1 x.2.1 x.2.2
    have h2 := siz_bdA y.1 y.2.1 y.2.2
    exact prod_two _ _ h1.1 h1.2 h2.1 h2.2
theorem prodL_take {L : List R3} (hn : L.length ≤ 2) {j : Nat} {x : R3} (hx : L[j]? = some x) : prodL (L.take (j + 1)) = prodL (L.take j) * siz x.1 x.2.1 x.2.2 := by
  match L, hn, j, hx with
  | [a], _, 0, hx => simp at hx; subst hx; simp [prodL]
  | [a, b], _, 0, hx => simp at hx; subst hx; simp [prodL]
  | [a, b], _, 1, hx => simp at hx; subst hx; simp [prodL]
  | [a], _, 1, hx => simp at hx
  | [a, b], _, j + 2, hx => simp at hx
  | [a], _, j + 2, hx => simp at hx
set_option maxRecDepth 100000 in
set_option maxHeartbeats 3200000 in
theorem product_any (v : Value) (L : List R3) (w : World) (hr : Rd w v L) (hL : Ok3 L) (hn : L.length ≤ 2) :
    Calls Try.prog 142 #[v] w fun e w' => e = .returned (.int .i64 (prodL L)) ∧ Below w.heap.size w w' := by
  obtain ⟨ao, cap, rfl, hc⟩ := hr
  have HL := Lib.hid hL
  clear hL
  by_cases n0 : L.length = 0
  · obtain rfl : L = [] := List.eq_nil_of_length_eq_zero n0
    clear hc hn n0 HL
    go_enter Try.func142, Try.ntmps142
    go_wp2_with fail
    go_loopg [3, 5, 8] 1 (fun gh v3 _ v8 wr => v8 = .int .i64 0 ∧ v3 = .int .i64 1 ∧ 0 < gh ∧ wr = w)
    case atStart => exact ⟨rfl, rfl, by omega, rfl⟩
    case round =>
      obtain ⟨rfl, rfl, h0, rfl⟩ := hrel
      go_wp2
      exact bodyPost_ret (v := .int .i64 1) (by simp [results, Try.results142, go_sem, *]) rfl ⟨rfl, Below.refl _ _⟩
  · obtain ⟨b, o, rfl, hb, hcell⟩ := hc.resolve_left n0
    have CL := Lib.hid hcell
    clear hcell hc n0
    go_enter Try.func142, Try.ntmps142
    go_wp2_with fail
    go_loopg [3, 5, 8] (L.length + 1) (fun gh v3 _ v8 wr => ∃ (j : Nat) (p : Int), v8 = .int .i64 j ∧ v3 = .int .i64 p ∧ (j ≤ L.length ∧ L.length - j < gh) ∧ Hid (p = prodL (L.take j)) ∧ Hid (Below w.heap.size w wr))
    case atStart => exact ⟨0, 1, rfl, rfl, ⟨by omega, by omega⟩, Lib.hid (by simp [prodL]), Lib.hid (Below.refl _ _)⟩
    case round =>
      obtain ⟨j, p, rfl, rfl, ⟨j0, jg⟩, hp, B1⟩ := hrel
      have KG := Lib.hid jg
      clear jg
      by_cases hj : j < L.length
      · obtain ⟨x, hx⟩ : ∃ x, L[j]? = some x := ⟨L[j], List.getElem?_eq_getElem hj⟩
        obtain ⟨q0, q1, q2⟩ := CL.out j x hx
        have p0 := (B1.out.cell (p := ⟨b, o + j * 3, none⟩) hb).trans q0
        have p1 := (B1.out.cell (p := ⟨b, o + j * 3 + 1, none⟩) hb).trans q1
        have p2 := (B1.out.cell (p := ⟨b, o + j * 3 + 2, none⟩) hb).trans q2
        have ox := HL.out x (List.mem_of_getElem? hx)
        have PT := Lib.hid (prodL_take hn hx)
        have pb := prodL_bd (L.take (j + 1))
        have jp : IntKind.i64.wrap (p * siz x.1 x.2.1 x.2.2) = p * siz x.1 x.2.1 x.2.2 := IntWalk.i64_in _ (by rw [hp.out, ← PT.out]; omega)
        have jw : IntKind.i64.wrap ((j : Int) + 1) = (j : Int) + 1 := IntWalk.i64_in _ (by omega)
        have gb := B1.out.size
        clear q0 q1 q2 hx pb
        go_wp2_with fail
        refine (Size_any x.1 x.2.1 x.2.2 _ ox.1 ox.2.1 ox.2.2).mono ?_
        rintro e w2 ⟨rfl, hb2⟩
        have B2 := Lib.hid (B1.out.trans ((res1b hb2).1.mono gb))
        clear hb2 B1 p0 p1 p2
        go_wp2_with fail
        go_roundg (L.length - j)
        case measure => exact KG.out
        case rel => exact ⟨j + 1, _, by go_num, rfl, ⟨by omega, by omega⟩, Lib.hid (by rw [PT.out, hp.out]), B2⟩
      · obtain rfl : j = L.length := by omega
        have E : Hid (prodL L = p) := Lib.hid (by have := hp.out; rw [List.take_length] at this; exact this.symm)
        go_wp2
        exact bodyPost_ret (v := .int .i64 p) (by simp [results, Try.results142, go_sem, *]) rfl ⟨by rw [E.out], B1.out⟩
/-- the number of indices of a domain -/
def dsiz (L : List R3) (k s h : Int) : Int := if dchk L k s h = 0 then prodL L else 0
theorem dchk_rank {L : List R3} {k s h : Int} (hd : dchk L k s h = 0) : L.length = 1 ∨ L.length = 2 := by
  unfold dchk at hd
  by_cases c : rankB L.length = true
  · unfold rankB at c; simpa using c
  · rw [if_neg c] at hd; omega
theorem resD {w w1 : World} {t : TypeId} {a b c d : Value} (hb : Below (w.alloc (.cells #[a, b, c, d] t)).heap.size (w.alloc (.cells #[a, b, c, d] t)) w1) : Below w.heap.size w w1 ∧ Blk w.heap.size a b c d w1 :=
  ⟨((below_new _ _)).trans (hb.mono (by simp)), (Blk.new a b c d t w).keep hb⟩
set_option maxRecDepth 100000 in
set_option maxHeartbeats 3200000 in
theorem Dsize_any (v : Value) (L : List R3) (k s h : Int) (w : World) (hr : Rd w v L) (hL : Ok3 L) :
    Calls Try.prog 69 #[.agg #[v, .int .i64 k, .int .i64 s, .int .i64 h]] w fun e w' => e = .returned (.int .i64 (dsiz L k s h)) ∧ Below w.heap.size w w' := by
  obtain ⟨ao, cap, rfl, hc⟩ := hr
  have HR : Hid (Rd w (.slice ao L.length cap) L) := Lib.hid ⟨ao, cap, rfl, hc⟩
  have HL := Lib.hid hL
  clear hc hL
  go_enter Try.func69, Try.ntmps69
  go_wp2_with fail
  refine (Dcheck_any _ L _ _ _ _ (HR.out.keep (below_new _ _)) HL.out).mono ?_
  rintro e w1 ⟨rfl, hb1⟩
  have R1 := resD hb1
  have B1 := Lib.hid R1.1
  have D1 := Lib.hid R1.2
  clear hb1 R1
  by_cases c : dchk L k s h = 0
  · have c' : (dchk L k s h != 0) = false := by simp [c]
    have E : Hid (dsiz L k s h = prodL L) := Lib.hid (by unfold dsiz; rw [if_pos c])
    have N := Lib.hid (dchk_rank c)
    have x0 := D1.out.c0
    clear c
    go_wp2_with fail
    refine (product_any _ L _ (HR.out.keep B1.out) HL.out (by have := N.out; omega)).mono ?_
    rintro e w2 ⟨rfl, hb2⟩
    have B2 := Lib.hid (B1.out.trans (hb2.mono B1.out.size))
    clear hb2
    go_wp2
    go_ret
    exact ⟨by rw [E.out]; rfl, B2.out⟩
  · have c' : (dchk L k s h != 0) = true := by simp [c]
    have E : Hid (dsiz L k s h = 0) := Lib.hid (by unfold dsiz; rw [if_neg c])
    clear c
    go_wp2
    go_ret
    exact ⟨by rw [E.out]; rfl, B1.out⟩
/-- the error of two domains -/
def dboth (L : List R3) (k s h : Int) (M : List R3) (k' s' h' : Int) : Int :=
  if dchk L k s h = 0 then (if dchk M k' s' h' = 0 then (if L.length = M.length then 0 else 5) else dchk M k' s' h') else dchk L k s h
theorem res44 {w w1 : World} {t t' : TypeId} {a b c d a' b' c' d' : Value} (hb : Below ((w.alloc (.cells #[a, b, c, d] t)).alloc (.cells #[a', b', c', d'] t')).heap.size ((w.alloc (.cells #[a, b, c, d] t)).alloc (.cells #[a', b', c', d'] t')) w1) :
    Below w.heap.size w w1 ∧ Blk w.heap.size a b c d w1 ∧ Blk (w.heap.size + 1) a' b' c' d' w1 := by
  have n0 := Blk.new a b c d t w
  have n1 := Blk.new a' b' c' d' t' (w.alloc (.cells #[a, b, c, d] t))
  have m0 := n0.keep (w1 := (w.alloc (.cells #[a, b, c, d] t)).alloc (.cells #[a', b', c', d'] t')) (below_new _ _)
  have e1 : (w.alloc (.cells #[a, b, c, d] t)).heap.size = w.heap.size + 1 := by simp
  rw [e1] at n1
  exact ⟨(((Below.refl _ _).alloc (Nat.le_refl _) _).alloc (by simp) _).trans (hb.mono (by simp; omega)), m0.keep hb, n1.keep hb⟩
set_option maxRecDepth 100000 in
set_option maxHeartbeats 3200000 in
theorem Dboth_any (v : Value) (L : List R3) (k s h : Int) (v' : Value) (M : List R3) (k' s' h' : Int) (w : World) (hr : Rd w v L) (hL : Ok3 L) (hr' : Rd w v' M) (hM : Ok3 M) :
    Calls Try.prog 150 #[.agg #[v, .int .i64 k, .int .i64 s, .int .i64 h], .agg #[v', .int .i64 k', .int .i64 s', .int .i64 h']] w fun e w' => e = .returned (.int .i64 (dboth L k s h M k' s' h')) ∧ Below w.heap.size w w' := by
  obtain ⟨ao, cap, rfl, hc⟩ := hr
  obtain ⟨ao', cap', rfl, hc'⟩ := hr'
  have HR : Hid (Rd w (.slice ao L.length cap) L) := Lib.hid ⟨ao, cap, rfl, hc⟩
  have HR' : Hid (Rd w (.slice ao' M.length cap') M) := Lib.hid ⟨ao', cap', rfl, hc'⟩
  have HL := Lib.hid hL
  have HM := Lib.hid hM
  clear hc hL hc' hM
  go_enter Try.func150, Try.ntmps150
  go_wp2_with fail
  refine (Dcheck_any _ L _ _ _ _ ((HR.out.keep (below_new _ _)).keep (below_new _ _)) HL.out).mono ?_
  rintro e w1 ⟨rfl, hb1⟩
  have R1 := res44 hb1
  have B1 := Lib.hid R1.1
  have D1 := Lib.hid R1.2.1
  have F1 := Lib.hid R1.2.2
  clear hb1 R1
  by_cases c : dchk L k s h = 0
  · have c' : (dchk L k s h != 0) = false := by simp [c]
    have C := Lib.hid c
    have x0 := F1.out.c0
    have x1 := F1.out.c1
    have x2 := F1.out.c2
    have x3 := F1.out.c3
    clear c
    go_wp2_with fail
    refine (Dcheck_any _ M _ _ _ _ (HR'.out.keep B1.out) HM.out).mono ?_
    rintro e w2 ⟨rfl, hb2⟩
    have B2 := Lib.hid (B1.out.trans (hb2.mono B1.out.size))
    have D2 := Lib.hid (D1.out.keep hb2)
    have F2 := Lib.hid (F1.out.keep hb2)
    clear hb2 B1 D1 F1 x0 x1 x2 x3
    by_cases d : dchk M k' s' h' = 0
    · have d' : (dchk M k' s' h' != 0) = false := by simp [d]
      have x0 := D2.out.c0
      have y0 := F2.out.c0
      have D := Lib.hid d
      clear d
      by_cases e : L.length = M.length
      · have E : Hid (dboth L k s h M k' s' h' = 0) := Lib.hid (by unfold dboth; rw [if_pos C.out, if_pos D.out, if_pos e])
        have e' : ((L.length : Int) != (M.length : Int)) = false := by simp [e]
        clear e
        go_wp2
        rw [E.out]
        exact bodyPost_ret (v := .int .i64 0) (by simp [results, Try.results150, go_sem, *]) rfl ⟨rfl, B2.out⟩
      · have E : Hid (dboth L k s h M k' s' h' = 5) := Lib.hid (by unfold dboth; rw [if_pos C.out, if_pos D.out, if_neg e])
        have e' : ((L.length : Int) != (M.length : Int)) = true := by simp; omega
        clear e
        go_wp2
        rw [E.out]
        exact bodyPost_ret (v := .int .i64 5) (by simp [results, Try.results150, go_sem, *]) rfl ⟨rfl, B2.out⟩
    · have d' : (dchk M k' s' h' != 0) = true := by simp [d]
      have E : Hid (dboth L k s h M k' s' h' = dchk M k' s' h') := Lib.hid (by unfold dboth; rw [if_pos C.out, if_neg d])
      clear d
      go_wp2
      rw [E.out]
      exact bodyPost_ret (v := .int .i64 (dchk M k' s' h')) (by simp [results, Try.results150, go_sem, *]) rfl ⟨rfl, B2.out⟩
  · have c' : (dchk L k s h != 0) = true := by simp [c]
    have E : Hid (dboth L k s h M k' s' h' = dchk L k s h) := Lib.hid (by unfold dboth; rw [if_neg c])
    clear c
    go_wp2
    rw [E.out]
    exact bodyPost_ret (v := .int .i64 (dchk L k s h)) (by simp [results, Try.results150, go_sem, *]) rfl ⟨rfl, B1.out⟩
end Go.Proofs.Ytmelknodmbdhpaa
namespace Go.Proofs.Ytmelknodmbdhpaa
open Go.RowKit
/-- what each returns: ranges that the closure gave, or its first error -/
def EachRet (R : Nat → R3 → Int → Prop) (n : Nat) (k s h : Int) (w : World) : Ending → World → Prop := fun e w' => ∃ (v : Value) (k' s' h' er : Int), e = .returned (.tuple #[.agg #[v, .int .i64 k', .int .i64 s', .int .i64 h'], .int .i64 er]) ∧ Below w.heap.size w w' ∧
  Hid ((∃ X : List R3, X.length = n ∧ (∀ i x, X[i]? = some x → R i x 0) ∧ er = 0 ∧ k' = k ∧ s' = s ∧ h' = h ∧ w'.ownsRow w.heap.size 23 3 v X.length (cells3 X)) ∨
    (∃ (j : Nat) (x : R3), j < n ∧ R j x er ∧ ¬ er = 0 ∧ (∀ i, i < j → ∃ y, R i y 0) ∧ v = .slice none 0 0 ∧ k' = 0 ∧ s' = 0 ∧ h' = 0))
/-- each's blocks -/
structure ESt (w : World) (v : Value) (k s h : Int) (X : List R3) (ao : Option Addr) (cap : Nat) (wr : World) : Prop where
  below : Below w.heap.size w wr
  d : Blk w.heap.size v (.int .i64 k) (.int .i64 s) (.int .i64 h) wr
  z : Blk (w.heap.size + 1) (.slice none 0 0) (.int .i64 0) (.int .i64 0) (.int .i64 0) wr
  r : Blk (w.heap.size + 1 + 1) (.slice ao X.length cap) (.int .i64 k) (.int .i64 s) (.int .i64 h) wr
  size : w.heap.size + 3 ≤ wr.heap.size
  own : wr.ownsRow (w.heap.size + 3) 23 3 (.slice ao X.length cap) X.length (cells3 X)
theorem ESt.keep {w : World} {v : Value} {k s h : Int} {X : List R3} {ao : Option Addr} {cap : Nat} {wa wb : World} (t : ESt w v k s h X ao cap wa) (hb : Below wa.heap.size wa wb) : ESt w v k s h X ao cap wb :=
  ⟨t.below.trans (hb.mono t.below.size), t.d.keep hb, t.z.keep hb, t.r.keep hb, Nat.le_trans t.size hb.size, owns_below t.own hb⟩
theorem ESt.new {w : World} {v : Value} {k s h : Int} {t : TypeId} : ESt w v k s h [] none 0 (((w.alloc (.cells #[v, .int .i64 k, .int .i64 s, .int .i64 h] t)).alloc (.cells #[.slice none 0 0, .int .i64 0, .int .i64 0, .int .i64 0] t)).alloc (.cells #[.slice none 0 0, .int .i64 k, .int .i64 s, .int .i64 h] t)) := by
  have s1 : (w.alloc (.cells #[v, .int .i64 k, .int .i64 s, .int .i64 h] t)).heap.size = w.heap.size + 1 := by simp
  have s2 : ((w.alloc (.cells #[v, .int .i64 k, .int .i64 s, .int .i64 h] t)).alloc (.cells #[.slice none 0 0, .int .i64 0, .int .i64 0, .int .i64 0] t)).heap.size = w.heap.size + 1 + 1 := by simp
  refine ⟨(((Below.refl _ _).alloc (Nat.le_refl _) _).alloc (by simp) _).alloc (by simp; omega) _, ?_, ?_, ?_, by simp, World.ownsRow_nil _ _ _ _⟩
  · exact ((Blk.new _ _ _ _ t w).keep (below_new _ _)).keep (below_new _ _)
  · rw [← s1]; exact (Blk.new _ _ _ _ t _).keep (below_new _ _)
  · rw [← s2]; exact Blk.new _ _ _ _ t _
theorem blk_else {g : Nat} {a b c d : Value} {w : World} (h : Blk g a b c d w) {p : Nat} (hne : g ≠ p) (u : Value) : Blk g a b c d (w.setCell ⟨p, 0, none⟩ u) := by
  obtain ⟨s, c0, c1, c2, c3, f0, f1, f2, f3⟩ := h
  constructor
  · simp [World.setCell]; exact s
  all_goals simp [go_sem, *]
theorem blk_first {g : Nat} {a b c d : Value} {w : World} (h : Blk g a b c d w) (u : Value) : Blk g u b c d (w.setCell ⟨g, 0, none⟩ u) := by
  obtain ⟨s, c0, c1, c2, c3, f0, f1, f2, f3⟩ := h
  constructor
  · simp [World.setCell]; exact s
  all_goals simp [go_sem, *]
theorem blk_under {g B : Nat} {a b c d : Value} {w w1 : World} (k : Blk g a b c d w) (hb : Below B w w1) (hg : g < B) : Blk g a b c d w1 :=
  ⟨Nat.lt_of_lt_of_le k.size hb.size, (hb.cell (p := ⟨g, 0, none⟩) hg).trans k.c0, (hb.cell (p := ⟨g, 1, none⟩) hg).trans k.c1, (hb.cell (p := ⟨g, 2, none⟩) hg).trans k.c2, (hb.cell (p := ⟨g, 3, none⟩) hg).trans k.c3,
    (hb.frozen (p := ⟨g, 0, none⟩) hg).trans k.f0, (hb.frozen (p := ⟨g, 1, none⟩) hg).trans k.f1, (hb.frozen (p := ⟨g, 2, none⟩) hg).trans k.f2, (hb.frozen (p := ⟨g, 3, none⟩) hg).trans k.f3⟩
/-- a range more -/
theorem ESt.add {w : World} {v : Value} {k s h : Int} {X : List R3} {ao : Option Addr} {cap : Nat} {wa wb : World} (t : ESt w v k s h X ao cap wa) {ao' : Option Addr} {cap' : Nat}
    {x : R3} (own : wb.ownsRow (w.heap.size + 3) 23 3 (.slice ao' (X.length + 1) cap') (X.length + 1) (cells3 X ++ cells3 [x])) (grow : wa.grownBy wb (Value.slice ao X.length cap).ownBlock) :
    ESt w v k s h (X ++ [x]) ao' cap' (wb.setCell ⟨w.heap.size + 1 + 1, 0, none⟩ (.slice ao' (X.length + 1) cap')) := by
  have B3 : Below (w.heap.size + 3) wa wb := (Below.refl _ _).grown grow t.size (fun g hg => (t.own.lt g hg).1)
  have e : (X ++ [x]).length = X.length + 1 := by simp
  refine ⟨(t.below.trans (B3.mono (by omega))).setCell (by simp; omega) _, blk_else (blk_under t.d B3 (by omega)) (by omega) _, blk_else (blk_under t.z B3 (by omega)) (by omega) _, ?_, ?_, ?_⟩
  · rw [e]; exact blk_first (blk_under t.r B3 (by omega)) _
  · have := t.size; have := B3.size; simp [World.setCell]; omega
  · rw [e, cells3_append]
    exact ownsRow_setCell_below own (by simp) _
/-- what the closure gives, in every world in which old memory lies as it lay -/
def GivesInter (c0 c1 : Nat) (w0 : World) (n : Nat) (R : Nat → R3 → Int → Prop) : Prop := ∀ i : Nat, i < n → ∀ w : World, Below w0.heap.size w0 w →
  Calls Try.prog 151 #[.int .i64 i, .pointer (some ⟨c0, 0, none⟩), .pointer (some ⟨c1, 0, none⟩)] w fun e w' => ∃ (x0 x1 x2 er : Int), e = .returned (.tuple #[.agg #[.int .i64 x0, .int .i64 x1, .int .i64 x2], .int .i64 er]) ∧ Below w.heap.size w w' ∧ Hid (R i (x0, x1, x2) er)
set_option maxRecDepth 100000 in
set_option maxHeartbeats 6400000 in
theorem eachInter (c0 c1 : Nat) (v : Value) (L : List R3) (k s h : Int) (R : Nat → R3 → Int → Prop) (w : World) (hr : Rd w v L) (hn : L.length ≤ 2) (hg : GivesInter c0 c1 w L.length R) :
    Calls Try.prog 139 #[.agg #[v, .int .i64 k, .int .i64 s, .int .i64 h], .func (.func 151) #[] #[.pointer (some ⟨c0, 0, none⟩), .pointer (some ⟨c1, 0, none⟩)]] w (EachRet R L.length k s h w) := by
  obtain ⟨ao0, cap0, rfl, hc⟩ := hr
  obtain ⟨i0, hi, hz0, hz1, hz2⟩ := info_parts Try.infoRange
  have HG := Lib.hid hg
  clear hc hg
  generalize L.length = n at *
  clear L
  have E0 : Hid (ESt w (.slice ao0 n cap0) k s h [] none 0 (((w.alloc (.cells #[.slice ao0 n cap0, .int .i64 k, .int .i64 s, .int .i64 h] 62)).alloc (.cells #[.slice none 0 0, .int .i64 0, .int .i64 0, .int .i64 0] 62)).alloc (.cells #[.slice none 0 0, .int .i64 k, .int .i64 s, .int .i64 h] 62))) := Lib.hid ESt.new
  go_enter Try.func139, Try.ntmps139
  go_wp2_with fail
  go_loopg [7, 8, 9, 16] (n + 1) (fun gh _ _ _ v16 wr => ∃ (X : List R3) (ao : Option Addr) (cap : Nat), v16 = .int .i64 X.length ∧ (X.length ≤ n ∧ n - X.length < gh) ∧ Hid (∀ i x, X[i]? = some x → R i x 0) ∧ Hid (ESt w (.slice ao0 n cap0) k s h X ao cap wr))
  case atStart => exact ⟨[], none, 0, rfl, ⟨by simp, by simp⟩, Lib.hid (fun i x hx => by simp at hx), E0⟩
  case round =>
    obtain ⟨X, ao, cap, rfl, ⟨j0, jg⟩, hz, E1⟩ := hrel
    have KG := Lib.hid jg
    clear jg E0
    have r0 := E1.out.r.c0
    have r1 := E1.out.r.c1
    have r2 := E1.out.r.c2
    have r3 := E1.out.r.c3
    have g0 := E1.out.r.f0
    have z0 := E1.out.z.f0
    have z1 := E1.out.z.f1
    have z2 := E1.out.z.f2
    have z3 := E1.out.z.f3
    by_cases hj : X.length < n
    · have jw : IntKind.i64.wrap ((X.length : Int) + 1) = (X.length : Int) + 1 := IntWalk.i64_in _ (by omega)
      go_wp2_with fail
      refine (HG.out X.length hj _ E1.out.below).mono ?_
      rintro e w2 ⟨x0, x1, x2, er, rfl, hb2, FX⟩
      have E2 := Lib.hid (E1.out.keep hb2)
      clear hb2 E1 r0 r1 r2 r3 g0 z0 z1 z2 z3
      have E3 := Lib.hid (E2.out.keep (below_new w2 (.cells #[.int .i64 x0, .int .i64 x1, .int .i64 x2] 23)))
      have X3 := Lib.hid (B3.new (.int .i64 x0) (.int .i64 x1) (.int .i64 x2) 23 w2)
      clear E2
      by_cases c : er = 0
      · subst c
        go_upto_region 8 with fail
        generalize w2.alloc (.cells #[.int .i64 x0, .int .i64 x1, .int .i64 x2] 23) = w3 at *
        generalize w2.heap.size = xb at *
        have r0 := E3.out.r.c0
        have r1 := E3.out.r.c1
        have r2 := E3.out.r.c2
        have r3 := E3.out.r.c3
        have g0 := E3.out.r.f0
        have x0' := X3.out.c0
        have x1' := X3.out.c1
        have x2' := X3.out.c2
        have sz := E3.out.size
        have zx := X3.out.size
        go_wp2_with (first | (at_builtin; refine wpList_append_own _ rfl (.tmp 30) (.tmp 32) 40 rfl (w.heap.size + 3) 23 i0 (.agg #[.int .i64 0, .int .i64 0, .int .i64 0]) 3 24 Try.underlying40 hi hz0 hz1 hz2 rfl (by decide) _ X.length (cells3 X) rfl (E3.out.own.alloc _) ⟨w3.heap.size, 0, none⟩ 1 1 (cells3 [(x0, x1, x2)]) rfl rfl ?c1 ?c2 ?c3 ?c4 ?c5 ?_))
        case c1 => exact World.news_of_block (cs := #[.int .i64 x0, .int .i64 x1, .int .i64 x2]) (t := 23) (fr := (0, 0)) (heap_alloc_new w3 _)
        case c2 => exact cells3_one _
        case c3 => unfold maxLen; omega
        case c4 => omega
        case c5 => simp; omega
        intro v' w4 own4 grow4 _
        obtain ⟨g', cap', rfl⟩ := ownsRow_succ own4
        have E4 := Lib.hid ((E3.out.keep (below_new w3 (.cells #[.int .i64 x0, .int .i64 x1, .int .i64 x2] 23))).add own4 grow4)
        have B4 : Below (w.heap.size + 3) (w3.alloc (.cells #[.int .i64 x0, .int .i64 x1, .int .i64 x2] 23)) w4 := (Below.refl _ _).grown grow4 (by simp; omega) (fun g hg => (((E3.out.own.alloc (.cells #[.int .i64 x0, .int .i64 x1, .int .i64 x2] 23)).lt g hg)).1)
        have R4 := Lib.hid (blk_under (E3.out.r.keep (below_new w3 (.cells #[.int .i64 x0, .int .i64 x1, .int .i64 x2] 23))) B4 (by omega))
        clear own4 grow4 B4 E3 X3 r0 r1 r2 r3 g0 x0' x1' x2' sz zx
        have r0 := R4.out.c0
        have g0 := R4.out.f0
        go_wp2_with fail
        go_roundg (n - X.length)
        case measure => exact KG.out
        case rel => exact ⟨X ++ [(x0, x1, x2)], _, _, by simp, ⟨by simp; omega, by simp; omega⟩, Lib.hid (fun i x hx => by
            by_cases c : i < X.length
            · rw [List.getElem?_append_left c] at hx; exact hz.out i x hx
            · rw [List.getElem?_append_right (by omega)] at hx
              have e : i = X.length := by
                have := (List.getElem?_eq_some_iff.1 hx).1
                simp at this; omega
              subst e
              simp at hx; subst hx; exact FX.out), E4⟩
      · have c' : (er != 0) = true := by simp [c]
        have C := Lib.hid c
        clear c
        go_upto_region 7 with fail
        generalize w2.alloc (.cells #[.int .i64 x0, .int .i64 x1, .int .i64 x2] 23) = w3 at *
        have z0 := E3.out.z.f0
        have z1 := E3.out.z.f1
        have z2 := E3.out.z.f2
        have z3 := E3.out.z.f3
        have q0 := E3.out.z.c0
        have q1 := E3.out.z.c1
        have q2 := E3.out.z.c2
        have q3 := E3.out.z.c3
        go_wp2
        refine bodyPost_ret (v := .tuple #[.agg #[.slice none 0 0, .int .i64 0, .int .i64 0, .int .i64 0], .int .i64 er]) (by simp [results, Try.results139, go_sem, *]) rfl ⟨_, _, _, _, _, rfl, ?_, Lib.hid (Or.inr ⟨X.length, (x0, x1, x2), hj, FX.out, C.out, fun i hi => ?_, rfl, rfl, rfl, rfl⟩)⟩
        · repeat (first | exact E3.out.below | refine Below.setCell ?_ (by simp; try omega) _)
        · exact ⟨X[i]'hi, hz.out i _ (List.getElem?_eq_getElem hi)⟩
    · obtain rfl : X.length = n := by omega
      have q0 := E1.out.z.c0
      have q1 := E1.out.z.c1
      have q2 := E1.out.z.c2
      have q3 := E1.out.z.c3
      go_wp2
      refine bodyPost_ret (v := .tuple #[.agg #[.slice ao X.length cap, .int .i64 k, .int .i64 s, .int .i64 h], .int .i64 0]) (by simp [results, Try.results139, go_sem, *]) rfl ⟨_, _, _, _, _, rfl, ?_, Lib.hid (Or.inl ⟨X, rfl, hz.out, rfl, rfl, rfl, rfl, ?_⟩)⟩
      · repeat (first | exact E1.out.below | refine Below.setCell ?_ (by simp; try omega) _)
      · refine owns_base (base := w.heap.size + 3) ?_ (by omega)
        repeat (first | exact E1.out.own | refine ownsRow_setCell_below ?_ (by simp; try omega) _)
end Go.Proofs.Ytmelknodmbdhpaa
