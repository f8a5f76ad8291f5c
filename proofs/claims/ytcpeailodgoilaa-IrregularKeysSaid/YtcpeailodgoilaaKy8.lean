/-
  Part 8: LawOr, DomA, DomB, DomC, RDA, DomD, DomE, ByA, SpanJ, SpanK, SpanI, SpanL, RefF, RefG, RefJ, RefK, RefL, PairA, PairB, ByB, DomF, DomG, RndH, DomH, DomI, DomJ, DomK, DomL.
-/
import Derived.Test.YtcpeailodgoilaaKy7
import Derived.BigQuiet
import Derived.BigRegion
import Derived.Deep.AppendLies
import Derived.Deep.CutBlock
import Derived.Deep.DeepCutAuto
import Derived.Deep.DrawnRows
import Derived.Deep.LoopGhost
import Derived.Deep.QuietTactic
import Derived.Deep.RegionHeld
import Derived.Deep.RegionHeld3
import Derived.Deep.RegionWith
import Derived.Laws.AppendOwnNone
import Derived.Lib.AppendZeros
import Derived.Lib.AppendZerosOnto
import Derived.Lib.Hide
import Derived.Lib.LazyBuf
import Derived.LoopIn
import Derived.LoopNIn
import Derived.Maps.AppendAt
import Derived.OrdersHeld
import Derived.OrdersIn
import Derived.OwnWalk
import Derived.OwnWalkIn
import Derived.RangeFuncBound
import Derived.RangeFuncBox
import Derived.RangeFuncCalls
import Derived.RangeFuncLeaves
import Derived.RangeFuncNested
import Derived.Shelf.Abstract
import Derived.Shelf.RegionOpen
import Derived.TacticsInMore
import Derived.WalkKit
import Derived.WalkLawsBesides
import Derived.WalkMore
import Derived.WalkSpells
namespace Go.Proofs.Ytcpeailodgoilaa
open Go.RowKit
theorem nthV_in {l h s : Int} (hk : chk l h s = 0) {k : Nat} (hn : (k : Int) < siz l h s) : posB l h s (nthV l h s k) = true ∧ posN l h s (nthV l h s k) = k ∧ l ≤ nthV l h s k ∧ nthV l h s k ≤ h := by
  have bA := chk_bounds hk
  have le : l ≤ h := by
    by_cases c : l ≤ h
    · exact c
    · have := empty_a hk c; omega
  obtain ⟨st, z, m, s0⟩ := steps_a hk le
  have bd := mul_bd (k : Int) (h - l) (magA s) (by omega) (by rw [← siz_ok hk le]; exact hn) (by omega)
  have hd : magA s ∣ h - l := ⟨siz l h s - 1, by rw [st, Int.mul_comm]⟩
  have mem : l ≤ nthV l h s k ∧ nthV l h s k ≤ h ∧ (nthV l h s k - l) % magA s = 0 := by
    unfold nthV
    split
    · refine ⟨by omega, by omega, Int.emod_eq_zero_of_dvd ?_⟩
      rw [show h - (k : Int) * magA s - l = (h - l) - (k : Int) * magA s by omega]
      exact Int.dvd_sub hd (Int.dvd_mul_left _ _)
    · refine ⟨by omega, by omega, Int.emod_eq_zero_of_dvd ?_⟩
      rw [show l + (k : Int) * magA s - l = (k : Int) * magA s by omega]
      exact Int.dvd_mul_left _ _
  have p : posB l h s (nthV l h s k) = true := decide_eq_true ⟨hk, mem.1, mem.2.1, mem.2.2⟩
  refine ⟨p, ?_, mem.1, mem.2.1⟩
  unfold posN
  rw [if_pos p]
  unfold nthV
  by_cases c : s < 0
  · rw [if_pos c, if_pos c, show h - (h - (k : Int) * magA s) = (k : Int) * magA s by omega, Int.mul_ediv_cancel _ (by omega)]
  · rw [if_neg c, if_neg c, show l + (k : Int) * magA s - l = (k : Int) * magA s by omega, Int.mul_ediv_cancel _ (by omega)]
/-- the law's box, and the slice that it walks -/
structure OSt (w : World) (l h s : Int) (base : Nat) (v : Value) (n : Nat) (wx : World) : Prop where
  below : Below w.heap.size w wx
  a : B3 w.heap.size (.int .i64 l) (.int .i64 h) (.int .i64 s) wx
  own : wx.ownsRow base 3 1 v n ((numsL l h s).map (Value.int .i64))
theorem OSt.keep {w : World} {l h s : Int} {base n : Nat} {v : Value} {w1 w2 : World} (o : OSt w l h s base v n w1) (hb : Below w1.heap.size w1 w2) : OSt w l h s base v n w2 :=
  ⟨o.below.trans (hb.mono o.below.size), o.a.keep hb, owns_below o.own hb⟩
theorem owns_addr {w : World} {base n cap : Nat} {e : TypeId} {size : Nat} {ao : Option Addr} {xs : List Value} (h : w.ownsRow base e size (.slice ao n cap) n xs) (hn : ¬ n = 0) : ∃ g, ao = some ⟨g, 0, none⟩ := by
  rcases h.2 with ⟨_, e⟩ | ⟨g, c, _, e, _⟩
  · exact absurd e hn
  · injection e with e1 e2 e3
    exact ⟨g, e1⟩
theorem res1b {w w1 : World} {t : TypeId} {a b c : Value} (hb : Below (w.alloc (.cells #[a, b, c] t)).heap.size (w.alloc (.cells #[a, b, c] t)) w1) : Below w.heap.size w w1 ∧ B3 w.heap.size a b c w1 :=
  ⟨((below_new _ _)).trans (hb.mono (by simp)), (B3.new a b c t w).keep hb⟩
end Go.Proofs.Ytcpeailodgoilaa
namespace Go.Proofs.Ytcpeailodgoilaa
open Go.RowKit
/-- a slice of ranges reads as a list -/
def Rd (w : World) (v : Value) (L : List R3) : Prop := ∃ (ao : Option Addr) (cap : Nat), v = .slice ao L.length cap ∧ (L.length = 0 ∨ ∃ b o : Nat, ao = some ⟨b, o, none⟩ ∧ b < w.heap.size ∧
  ∀ (j : Nat) (x : R3), L[j]? = some x → w.cell? ⟨b, o + j * 3, none⟩ = some (.int .i64 x.1) ∧ w.cell? ⟨b, o + j * 3 + 1, none⟩ = some (.int .i64 x.2.1) ∧ w.cell? ⟨b, o + j * 3 + 2, none⟩ = some (.int .i64 x.2.2))
theorem Rd.keep {w w' : World} {v : Value} {L : List R3} (r : Rd w v L) (hb : Below w.heap.size w w') : Rd w' v L := by
  obtain ⟨ao, cap, e, h⟩ := r
  refine ⟨ao, cap, e, h.elim Or.inl fun ⟨b, o, e2, hlt, hc⟩ => Or.inr ⟨b, o, e2, Nat.lt_of_lt_of_le hlt hb.size, fun j x hx => ?_⟩⟩
  obtain ⟨c0, c1, c2⟩ := hc j x hx
  exact ⟨(hb.cell (p := ⟨b, o + j * 3, none⟩) hlt).trans c0, (hb.cell (p := ⟨b, o + j * 3 + 1, none⟩) hlt).trans c1, (hb.cell (p := ⟨b, o + j * 3 + 2, none⟩) hlt).trans c2⟩
theorem Rd.of_own {w : World} {base : Nat} {v : Value} {L : List R3} (h : w.ownsRow base 23 3 v L.length (cells3 L)) : Rd w v L := by
  obtain ⟨ao, cap, rfl⟩ := owns_slice h
  refine ⟨ao, cap, rfl, ?_⟩
  by_cases z : L.length = 0
  · exact Or.inl z
  · obtain ⟨g, rfl⟩ := owns_addr h z
    refine Or.inr ⟨g, 0, rfl, (h.lt g rfl).2, fun j x hx => ?_⟩
    rw [Nat.zero_add]
    exact owns_at h j x hx
/-- the ints of a list of ranges are ints -/
def Ok3 (L : List R3) : Prop := ∀ x ∈ L, I64 x.1 ∧ I64 x.2.1 ∧ I64 x.2.2
def rankB (n : Nat) : Bool := decide (n = 1) || decide (n = 2)
theorem ranked_any (ao : Option Addr) (n cap : Nat) (w : World) :
    Calls Try.prog 160 #[.slice ao n cap] w fun e w' => e = .returned (.bool (rankB n)) ∧ w = w' := by
  by_cases c1 : n = 1
  · subst c1
    go_enter Try.func160, Try.ntmps160
    go_wp2
    go_ret
    exact ⟨rfl, rfl⟩
  · by_cases c2 : n = 2
    · subst c2
      go_enter Try.func160, Try.ntmps160
      go_wp2
      go_ret
      exact ⟨rfl, rfl⟩
    · have e : Hid (rankB n = false) := Lib.hid (by unfold rankB; simp [c1, c2])
      have d1 : ((n : Int) == 1) = false := by simp; omega
      have d2 : ((n : Int) == 2) = false := by simp; omega
      clear c1 c2
      go_enter Try.func160, Try.ntmps160
      go_wp2
      rw [e.out]
      exact bodyPost_ret (v := .bool false) (by simp [results, Try.results160, go_sem, *]) rfl ⟨rfl, rfl⟩
/-- whether a map is right -/
def plB (k s h : Int) : Bool :=
  if k = 0 then decide (s = 0) && (decide (0 ≤ h) && decide (h < 8))
  else if k = 1 ∨ k = 2 ∨ k = 4 then decide (s = 0) && decide (h = 0)
  else if k = 3 then decide (1 ≤ s) && (decide (s ≤ 1000) && decide (h = 0)) else false
def PlRet (k s h : Int) (w : World) : Ending → World → Prop := fun e w' => e = .returned (.bool (plB k s h)) ∧ Below w.heap.size w w'
theorem pl_of {k s h : Int} {b : Bool} {w w' : World} (e : plB k s h = b) (hb : Below w.heap.size w w') : PlRet k s h w (.returned (.bool b)) w' := ⟨by rw [e], hb⟩
set_option maxHeartbeats 3200000 in
theorem placed_any (k s h : Int) (w : World) : Calls Try.prog 166 #[.agg #[.int .i64 k, .int .i64 s, .int .i64 h]] w (PlRet k s h w) := by
  by_cases k0 : k = 0
  · subst k0
    by_cases s0 : s = 0
    · have s0' : (s == 0) = true := by simp [s0]
      by_cases h0 : 0 ≤ h
      · have h0' : decide (0 ≤ h) = true := by simp [h0]
        by_cases h1 : h < 8
        · have h1' : decide (h < 8) = true := by simp [h1]
          have E : Hid (plB 0 s h = true) := Lib.hid (by unfold plB; simp [*])
          clear s0
          go_enter Try.func166, Try.ntmps166
          go_wp2
          refine bodyPost_ret (v := .bool true) (by simp [results, Try.results166, go_sem, *]) rfl (pl_of E.out ?_)
          repeat (first | exact Below.refl _ _ | refine Below.alloc ?_ (by simp; try omega) _ | refine Below.setCell ?_ (by simp; try omega) _)
        · have h1' : decide (h < 8) = false := by simp [h1]
          have E : Hid (plB 0 s h = false) := Lib.hid (by unfold plB; simp [*])
          clear s0
          go_enter Try.func166, Try.ntmps166
          go_wp2
          refine bodyPost_ret (v := .bool false) (by simp [results, Try.results166, go_sem, *]) rfl (pl_of E.out ?_)
          repeat (first | exact Below.refl _ _ | refine Below.alloc ?_ (by simp; try omega) _ | refine Below.setCell ?_ (by simp; try omega) _)
      · have h0' : decide (0 ≤ h) = false := by simp [h0]
        have E : Hid (plB 0 s h = false) := Lib.hid (by unfold plB; simp [*])
        clear s0
        go_enter Try.func166, Try.ntmps166
        go_wp2
        refine bodyPost_ret (v := .bool false) (by simp [results, Try.results166, go_sem, *]) rfl (pl_of E.out ?_)
        repeat (first | exact Below.refl _ _ | refine Below.alloc ?_ (by simp; try omega) _ | refine Below.setCell ?_ (by simp; try omega) _)
    · have s0' : (s == 0) = false := by simp [s0]
      have E : Hid (plB 0 s h = false) := Lib.hid (by unfold plB; simp [*])
      go_enter Try.func166, Try.ntmps166
      go_wp2
      refine bodyPost_ret (v := .bool false) (by simp [results, Try.results166, go_sem, *]) rfl (pl_of E.out ?_)
      repeat (first | exact Below.refl _ _ | refine Below.alloc ?_ (by simp; try omega) _ | refine Below.setCell ?_ (by simp; try omega) _)
  · have k0' : (k == 0) = false := by simp [k0]
    by_cases k1 : k = 1
    · subst k1
      by_cases s0 : s = 0
      · have s0' : (s == 0) = true := by simp [s0]
        by_cases h0 : h = 0
        · have h0' : (h == 0) = true := by simp [h0]
          have E : Hid (plB 1 s h = true) := Lib.hid (by unfold plB; simp [*])
          clear s0 h0
          go_enter Try.func166, Try.ntmps166
          go_wp2
          refine bodyPost_ret (v := .bool true) (by simp [results, Try.results166, go_sem, *]) rfl (pl_of E.out ?_)
          repeat (first | exact Below.refl _ _ | refine Below.alloc ?_ (by simp; try omega) _ | refine Below.setCell ?_ (by simp; try omega) _)
        · have h0' : (h == 0) = false := by simp [h0]
          have E : Hid (plB 1 s h = false) := Lib.hid (by unfold plB; simp [*])
          clear s0
          go_enter Try.func166, Try.ntmps166
          go_wp2
          refine bodyPost_ret (v := .bool false) (by simp [results, Try.results166, go_sem, *]) rfl (pl_of E.out ?_)
          repeat (first | exact Below.refl _ _ | refine Below.alloc ?_ (by simp; try omega) _ | refine Below.setCell ?_ (by simp; try omega) _)
      · have s0' : (s == 0) = false := by simp [s0]
        have E : Hid (plB 1 s h = false) := Lib.hid (by unfold plB; simp [*])
        go_enter Try.func166, Try.ntmps166
        go_wp2
        refine bodyPost_ret (v := .bool false) (by simp [results, Try.results166, go_sem, *]) rfl (pl_of E.out ?_)
        repeat (first | exact Below.refl _ _ | refine Below.alloc ?_ (by simp; try omega) _ | refine Below.setCell ?_ (by simp; try omega) _)
    · have k1' : (k == 1) = false := by simp [k1]
      by_cases k2 : k = 2
      · subst k2
        by_cases s0 : s = 0
        · have s0' : (s == 0) = true := by simp [s0]
          by_cases h0 : h = 0
          · have h0' : (h == 0) = true := by simp [h0]
            have E : Hid (plB 2 s h = true) := Lib.hid (by unfold plB; simp [*])
            clear s0 h0
            go_enter Try.func166, Try.ntmps166
            go_wp2
            refine bodyPost_ret (v := .bool true) (by simp [results, Try.results166, go_sem, *]) rfl (pl_of E.out ?_)
            repeat (first | exact Below.refl _ _ | refine Below.alloc ?_ (by simp; try omega) _ | refine Below.setCell ?_ (by simp; try omega) _)
          · have h0' : (h == 0) = false := by simp [h0]
            have E : Hid (plB 2 s h = false) := Lib.hid (by unfold plB; simp [*])
            clear s0
            go_enter Try.func166, Try.ntmps166
            go_wp2
            refine bodyPost_ret (v := .bool false) (by simp [results, Try.results166, go_sem, *]) rfl (pl_of E.out ?_)
            repeat (first | exact Below.refl _ _ | refine Below.alloc ?_ (by simp; try omega) _ | refine Below.setCell ?_ (by simp; try omega) _)
        · have s0' : (s == 0) = false := by simp [s0]
          have E : Hid (plB 2 s h = false) := Lib.hid (by unfold plB; simp [*])
          go_enter Try.func166, Try.ntmps166
          go_wp2
          refine bodyPost_ret (v := .bool false) (by simp [results, Try.results166, go_sem, *]) rfl (pl_of E.out ?_)
          repeat (first | exact Below.refl _ _ | refine Below.alloc ?_ (by simp; try omega) _ | refine Below.setCell ?_ (by simp; try omega) _)
      · have k2' : (k == 2) = false := by simp [k2]
        by_cases k4 : k = 4
        · subst k4
          by_cases s0 : s = 0
          · have s0' : (s == 0) = true := by simp [s0]
            by_cases h0 : h = 0
            · have h0' : (h == 0) = true := by simp [h0]
              have E : Hid (plB 4 s h = true) := Lib.hid (by unfold plB; simp [*])
              clear s0 h0
              go_enter Try.func166, Try.ntmps166
              go_wp2
              refine bodyPost_ret (v := .bool true) (by simp [results, Try.results166, go_sem, *]) rfl (pl_of E.out ?_)
              repeat (first | exact Below.refl _ _ | refine Below.alloc ?_ (by simp; try omega) _ | refine Below.setCell ?_ (by simp; try omega) _)
            · have h0' : (h == 0) = false := by simp [h0]
              have E : Hid (plB 4 s h = false) := Lib.hid (by unfold plB; simp [*])
              clear s0
              go_enter Try.func166, Try.ntmps166
              go_wp2
              refine bodyPost_ret (v := .bool false) (by simp [results, Try.results166, go_sem, *]) rfl (pl_of E.out ?_)
              repeat (first | exact Below.refl _ _ | refine Below.alloc ?_ (by simp; try omega) _ | refine Below.setCell ?_ (by simp; try omega) _)
          · have s0' : (s == 0) = false := by simp [s0]
            have E : Hid (plB 4 s h = false) := Lib.hid (by unfold plB; simp [*])
            go_enter Try.func166, Try.ntmps166
            go_wp2
            refine bodyPost_ret (v := .bool false) (by simp [results, Try.results166, go_sem, *]) rfl (pl_of E.out ?_)
            repeat (first | exact Below.refl _ _ | refine Below.alloc ?_ (by simp; try omega) _ | refine Below.setCell ?_ (by simp; try omega) _)
        · have k4' : (k == 4) = false := by simp [k4]
          by_cases k3 : k = 3
          · subst k3
            by_cases s0 : 1 ≤ s
            · have s0' : decide (1 ≤ s) = true := by simp [s0]
              by_cases s1 : s ≤ 1000
              · have s1' : decide (s ≤ 1000) = true := by simp [s1]
                by_cases h0 : h = 0
                · have h0' : (h == 0) = true := by simp [h0]
                  have E : Hid (plB 3 s h = true) := Lib.hid (by unfold plB; simp [*])
                  clear h0
                  go_enter Try.func166, Try.ntmps166
                  go_wp2
                  refine bodyPost_ret (v := .bool true) (by simp [results, Try.results166, go_sem, *]) rfl (pl_of E.out ?_)
                  repeat (first | exact Below.refl _ _ | refine Below.alloc ?_ (by simp; try omega) _ | refine Below.setCell ?_ (by simp; try omega) _)
                · have h0' : (h == 0) = false := by simp [h0]
                  have E : Hid (plB 3 s h = false) := Lib.hid (by unfold plB; simp [*])
                  go_enter Try.func166, Try.ntmps166
                  go_wp2
                  refine bodyPost_ret (v := .bool false) (by simp [results, Try.results166, go_sem, *]) rfl (pl_of E.out ?_)
                  repeat (first | exact Below.refl _ _ | refine Below.alloc ?_ (by simp; try omega) _ | refine Below.setCell ?_ (by simp; try omega) _)
              · have s1' : decide (s ≤ 1000) = false := by simp [s1]
                have E : Hid (plB 3 s h = false) := Lib.hid (by unfold plB; simp [*])
                go_enter Try.func166, Try.ntmps166
                go_wp2
                refine bodyPost_ret (v := .bool false) (by simp [results, Try.results166, go_sem, *]) rfl (pl_of E.out ?_)
                repeat (first | exact Below.refl _ _ | refine Below.alloc ?_ (by simp; try omega) _ | refine Below.setCell ?_ (by simp; try omega) _)
            · have s0' : decide (1 ≤ s) = false := by simp [s0]
              have E : Hid (plB 3 s h = false) := Lib.hid (by unfold plB; simp [*])
              go_enter Try.func166, Try.ntmps166
              go_wp2
              refine bodyPost_ret (v := .bool false) (by simp [results, Try.results166, go_sem, *]) rfl (pl_of E.out ?_)
              repeat (first | exact Below.refl _ _ | refine Below.alloc ?_ (by simp; try omega) _ | refine Below.setCell ?_ (by simp; try omega) _)
          · have k3' : (k == 3) = false := by simp [k3]
            have E : Hid (plB k s h = false) := Lib.hid (by unfold plB; simp [*])
            go_enter Try.func166, Try.ntmps166
            go_wp2
            refine bodyPost_ret (v := .bool false) (by simp [results, Try.results166, go_sem, *]) rfl (pl_of E.out ?_)
            repeat (first | exact Below.refl _ _ | refine Below.alloc ?_ (by simp; try omega) _ | refine Below.setCell ?_ (by simp; try omega) _)
end Go.Proofs.Ytcpeailodgoilaa
namespace Go.Proofs.Ytcpeailodgoilaa
open Go.RowKit
/-- the error of a range as a dimension -/
def dimE (x : R3) : Int := if chk x.1 x.2.1 x.2.2 = 0 then (if x.2.2 < 0 then 2 else 0) else chk x.1 x.2.1 x.2.2
/-- the first error of dimensions -/
def dimsE : List R3 → Int
  | [] => 0
  | x :: L => if dimE x = 0 then dimsE L else dimE x
/-- the error of a domain -/
def dchk (L : List R3) (k s h : Int) : Int := if rankB L.length = true then (if dimsE L = 0 then (if plB k s h = true then 0 else 2) else dimsE L) else 5
theorem dimsE_take {L : List R3} {j : Nat} {x : R3} (hx : L[j]? = some x) (h0 : dimsE (L.take j) = 0) : (dimE x = 0 → dimsE (L.take (j + 1)) = 0) ∧ (¬ dimE x = 0 → dimsE L = dimE x) := by
  induction L generalizing j with
  | nil => simp at hx
  | cons y L ih =>
    cases j with
    | zero =>
      simp at hx
      subst hx
      exact ⟨fun h => by simp [dimsE, h], fun h => by simp [dimsE, h]⟩
    | succ j =>
      have hx' : L[j]? = some x := by simpa using hx
      rw [List.take_succ_cons] at h0
      unfold dimsE at h0
      by_cases c : dimE y = 0
      · rw [if_pos c] at h0
        have := ih hx' h0
        refine ⟨fun h => ?_, fun h => ?_⟩
        · rw [List.take_succ_cons]; unfold dimsE; rw [if_pos c]; exact this.1 h
        · unfold dimsE; rw [if_pos c]; exact this.2 h
      · rw [if_neg c] at h0; exact absurd h0 c
/-- the box of a domain, and that old memory lies as it lay -/
structure DSt (w : World) (v : Value) (k s h : Int) (w' : World) : Prop where
  below : Below w.heap.size w w'
  d : Blk w.heap.size v (.int .i64 k) (.int .i64 s) (.int .i64 h) w'
theorem DSt.keep {w : World} {v : Value} {k s h : Int} {wa wb : World} (t : DSt w v k s h wa) (hb : Below wa.heap.size wa wb) : DSt w v k s h wb :=
  ⟨t.below.trans (hb.mono t.below.size), t.d.keep hb⟩
set_option maxRecDepth 100000 in
set_option maxHeartbeats 3200000 in
theorem Dcheck_any (v : Value) (L : List R3) (k s h : Int) (w : World) (hr : Rd w v L) (hL : Ok3 L) :
    Calls Try.prog 69 #[.agg #[v, .int .i64 k, .int .i64 s, .int .i64 h]] w fun e w' => e = .returned (.int .i64 (dchk L k s h)) ∧ Below w.heap.size w w' := by
  obtain ⟨ao, cap, rfl, hc⟩ := hr
  have HC := Lib.hid hc
  have HL := Lib.hid hL
  clear hc hL
  go_enter Try.func69, Try.ntmps69
  go_wp2_with fail
  go_step3
  go_wp2_with fail
  refine (ranked_any _ _ _ _).mono ?_
  rintro e w' ⟨rfl, rfl⟩
  cases hq : rankB L.length
  · have E : Hid (dchk L k s h = 5) := Lib.hid (by unfold dchk; rw [hq]; rfl)
    clear hq
    go_wp2
    (try rw [Exit.noGoto_ret])
    refine bodyPost_ret (v := .int .i64 5) (by simp [results, Try.results69, go_sem, *]) rfl ⟨by rw [E.out], ?_⟩
    exact below_new _ _
  · have HQ := Lib.hid hq
    clear hq
    go_wp2_with fail
    go_step3
    have hn : L.length = 1 ∨ L.length = 2 := by have := HQ.out; unfold rankB at this; simpa using this
    obtain ⟨b, o, rfl, hb, hcell⟩ := HC.out.resolve_left (by omega)
    have CL := Lib.hid hcell
    have HN := Lib.hid hn
    clear hcell hn HC
    have D0 : Hid (DSt w (.slice (some ⟨b, o, none⟩) L.length cap) k s h (w.alloc (.cells #[.slice (some ⟨b, o, none⟩) L.length cap, .int .i64 k, .int .i64 s, .int .i64 h] 62))) := Lib.hid ⟨below_new _ _, Blk.new _ _ _ _ _ _⟩
    go_upto_block 0 with fail
    go_cut [3] (fun v wx => v = .int .i64 (dimsE L) ∧ Hid (DSt w (.slice (some ⟨b, o, none⟩) L.length cap) k s h wx))
    case first =>
      go_wp2_with fail
      go_loopg [3, 5, 13, 19, 22] (L.length + 1) (fun gh v3 _ v13 _ _ wr => ∃ j : Nat, v13 = .int .i64 j ∧ v3 = .int .i64 0 ∧ (j ≤ L.length ∧ L.length - j < gh) ∧ Hid (dimsE (L.take j) = 0) ∧ Hid (DSt w (.slice (some ⟨b, o, none⟩) L.length cap) k s h wr))
      case atStart => exact ⟨0, rfl, rfl, ⟨by omega, by omega⟩, Lib.hid rfl, D0⟩
      case round =>
        obtain ⟨j, rfl, rfl, ⟨j0, jg⟩, hz, D1⟩ := hrel
        have KG := Lib.hid jg
        clear jg
        by_cases hj : j < L.length
        · obtain ⟨x, hx⟩ : ∃ x, L[j]? = some x := ⟨L[j], List.getElem?_eq_getElem hj⟩
          obtain ⟨q0, q1, q2⟩ := CL.out j x hx
          have p0 := (D1.out.below.cell (p := ⟨b, o + j * 3, none⟩) hb).trans q0
          have p1 := (D1.out.below.cell (p := ⟨b, o + j * 3 + 1, none⟩) hb).trans q1
          have p2 := (D1.out.below.cell (p := ⟨b, o + j * 3 + 2, none⟩) hb).trans q2
          have ox := HL.out x (List.mem_of_getElem? hx)
          have DT := Lib.hid (dimsE_take hx hz.out)
          have n2 : (L.length : Int) ≤ 2 := by have := HN.out; omega
          clear q0 q1 q2 hx
          go_wp2_with fail
          refine (check64 x.1 x.2.1 x.2.2 _ ox.1 ox.2.1 ox.2.2).mono ?_
          rintro e w2 ⟨rfl, hb2⟩
          have R2 := res1b hb2
          have D2 := Lib.hid (D1.out.keep R2.1)
          have X2 := Lib.hid R2.2
          clear hb2 R2 D1 p0 p1 p2
          have x2 := X2.out.c2
          have jw : IntKind.i64.wrap ((j : Int) + 1) = (j : Int) + 1 := IntWalk.i64_in _ (by omega)
          by_cases c : chk x.1 x.2.1 x.2.2 = 0
          · by_cases c2 : x.2.2 < 0
            · have e : dimE x = 2 := by unfold dimE; rw [if_pos c, if_pos c2]
              have E : Hid (dimsE L = 2) := Lib.hid (by rw [DT.out.2 (by omega), e])
              have c' : (chk x.1 x.2.1 x.2.2 != 0) = false := by simp [c]
              clear c e DT
              go_wp2_with fail
              go_meet
              exact ⟨by rw [E.out], D2⟩
            · have e : dimE x = 0 := by unfold dimE; rw [if_pos c, if_neg c2]
              have E : Hid (dimsE (L.take (j + 1)) = 0) := Lib.hid (DT.out.1 e)
              have c' : (chk x.1 x.2.1 x.2.2 != 0) = false := by simp [c]
              have C := Lib.hid c
              clear c e DT
              go_wp2_with fail
              go_roundg (L.length - j)
              case measure => exact KG.out
              case rel => exact ⟨j + 1, by go_num, by rw [C.out], ⟨by omega, by omega⟩, E, D2⟩
          · have e : dimE x = chk x.1 x.2.1 x.2.2 := by unfold dimE; rw [if_neg c]
            have E : Hid (dimsE L = chk x.1 x.2.1 x.2.2) := Lib.hid (by rw [DT.out.2 (by omega), e])
            have c' : (chk x.1 x.2.1 x.2.2 != 0) = true := by simp [c]
            clear c e DT
            go_wp2_with fail
            go_meet
            exact ⟨by rw [E.out], D2⟩
        · obtain rfl : j = L.length := by omega
          have E : Hid (dimsE L = 0) := Lib.hid (by have := hz.out; rwa [List.take_length] at this)
          go_wp2_with fail
          go_meet
          exact ⟨by rw [E.out], D1⟩
    case rest =>
      obtain ⟨rfl, D1⟩ := hcut
      clear D0
      have y1 := D1.out.d.c1
      have y2 := D1.out.d.c2
      have y3 := D1.out.d.c3
      by_cases c : dimsE L = 0
      · have c' : (dimsE L == 0) = true := by simp [c]
        have C := Lib.hid c
        clear c
        go_wp2_with fail
        refine (placed_any _ _ _ _).mono ?_
        rintro e w2 ⟨rfl, hb2⟩
        have D2 := Lib.hid (D1.out.keep hb2)
        clear hb2 D1 y1 y2 y3
        cases hp : plB k s h
        · have E : Hid (dchk L k s h = 2) := Lib.hid (by unfold dchk; rw [HQ.out, if_pos rfl, if_pos C.out, hp]; rfl)
          clear hp
          go_wp2
          (try rw [Exit.noGoto_ret])
          exact bodyPost_ret (v := .int .i64 2) (by simp [results, Try.results69, go_sem, *]) rfl ⟨by rw [E.out], D2.out.below⟩
        · have E : Hid (dchk L k s h = dimsE L) := Lib.hid (by unfold dchk; rw [HQ.out, if_pos rfl, if_pos C.out, hp, C.out]; rfl)
          clear hp
          go_wp2
          (try rw [Exit.noGoto_ret])
          exact bodyPost_ret (v := .int .i64 (dimsE L)) (by simp [results, Try.results69, go_sem, *]) rfl ⟨by rw [E.out], D2.out.below⟩
      · have c' : (dimsE L == 0) = false := by simp [c]
        have E : Hid (dchk L k s h = dimsE L) := Lib.hid (by unfold dchk; rw [HQ.out, if_pos rfl, if_neg c])
        clear c
        go_wp2
        (try rw [Exit.noGoto_ret])
        exact bodyPost_ret (v := .int .i64 (dimsE L)) (by simp [results, Try.results69, go_sem, *]) rfl ⟨by rw [E.out], D1.out.below⟩
end Go.Proofs.Ytcpeailodgoilaa
namespace Go.Proofs.Ytcpeailodgoilaa
open Go.RowKit
/-- the number of indices of ranges -/
def prodL : List R3 → Int
  | [] => 1
  | [x] => siz x.1 x.2.1 x.2.2
  | x :: y :: _ => siz x.1 x.2.1 x.2.2 * siz y.1 y.2.1 y.2.2
theorem siz_bdA (l h s : Int) : 0 ≤ siz l h s ∧ siz l h s ≤ 2000001 := by
  by_cases c : chk l h s = 0
  · exact siz_bdn c
  · have : siz l h s = 0 := if_neg (fun e => c e.1)
    omega
theorem prod_two (a b : Int) (a0 : 0 ≤ a) (a1 : a ≤ 2000001) (b0 : 0 ≤ b) (b1 : b ≤ 2000001) : 0 ≤ a * b ∧ a * b ≤ 4000004000001 := by
  have h1 : 0 ≤ a * b := Int.mul_nonneg a0 b0
  have h2 : a * b ≤ 2000001 * b := Int.mul_le_mul_of_nonneg_right a1 b0
  omega
theorem prodL_bd (L : List R3) : 0 ≤ prodL L ∧ prodL L ≤ 4000004000001 := by
  match L with
  | [] => simp [prodL]
  | [x] => have := siz_bdA x.1 x.2.1 x.2.2; simp only [prodL]; omega
  | x :: y :: _ =>
    have h1 := siz_bdA x.1 x.2.1 x.2.2
    have h2 := siz_bdA y.1 y.2.1 y.2.2
    exact prod_two _ _ h1.1 h1.2 h2.1 h2.2
theorem prodL_take {L : List R3} (hn : L.length ≤ 2) {j : Nat} {x : R3} (hx : L[j]? = some x) : prodL (L.take (j + 1)) = prodL (L.take j) * siz x.1 x.2.1 x.2.2 := by
  match L, hn, j, hx with
  | [a], _, 0, hx => simp at hx; subst hx; simp [prodL]
  | [a, b], _, 0, hx => simp at hx; subst hx; simp [prodL]
  | [a, b], _, 1, hx => simp at hx; subst hx; simp [prodL]
  | [a], _, 1, hx => simp at hx
  | [a, b], _, j + 2, hx => simp at hx
  | [a], _, j + 2, hx => simp at hx
set_option maxRecDepth 100000 in
set_option maxHeartbeats 3200000 in
theorem product_any (v : Value) (L : List R3) (w : World) (hr : Rd w v L) (hL : Ok3 L) (hn : L.length ≤ 2) :
    Calls Try.prog 164 #[v] w fun e w' => e = .returned (.int .i64 (prodL L)) ∧ Below w.heap.size w w' := by
  obtain ⟨ao, cap, rfl, hc⟩ := hr
  have HL := Lib.hid hL
  clear hL
  by_cases n0 : L.length = 0
  · obtain rfl : L = [] := List.eq_nil_of_length_eq_zero n0
    clear hc hn n0 HL
    go_enter Try.func164, Try.ntmps164
    go_wp2_with fail
    go_loopg [3, 5, 8] 1 (fun gh v3 _ v8 wr => v8 = .int .i64 0 ∧ v3 = .int .i64 1 ∧ 0 < gh ∧ wr = w)
    case atStart => exact ⟨rfl, rfl, by omega, rfl⟩
    case round =>
      obtain ⟨rfl, rfl, h0, rfl⟩ := hrel
      go_wp2
      exact bodyPost_ret (v := .int .i64 1) (by simp [results, Try.results164, go_sem, *]) rfl ⟨rfl, Below.refl _ _⟩
  · obtain ⟨b, o, rfl, hb, hcell⟩ := hc.resolve_left n0
    have CL := Lib.hid hcell
    clear hcell hc n0
    go_enter Try.func164, Try.ntmps164
    go_wp2_with fail
    go_loopg [3, 5, 8] (L.length + 1) (fun gh v3 _ v8 wr => ∃ (j : Nat) (p : Int), v8 = .int .i64 j ∧ v3 = .int .i64 p ∧ (j ≤ L.length ∧ L.length - j < gh) ∧ Hid (p = prodL (L.take j)) ∧ Hid (Below w.heap.size w wr))
    case atStart => exact ⟨0, 1, rfl, rfl, ⟨by omega, by omega⟩, Lib.hid (by simp [prodL]), Lib.hid (Below.refl _ _)⟩
    case round =>
      obtain ⟨j, p, rfl, rfl, ⟨j0, jg⟩, hp, B1⟩ := hrel
      have KG := Lib.hid jg
      clear jg
      by_cases hj : j < L.length
      · obtain ⟨x, hx⟩ : ∃ x, L[j]? = some x := ⟨L[j], List.getElem?_eq_getElem hj⟩
        obtain ⟨q0, q1, q2⟩ := CL.out j x hx
        have p0 := (B1.out.cell (p := ⟨b, o + j * 3, none⟩) hb).trans q0
        have p1 := (B1.out.cell (p := ⟨b, o + j * 3 + 1, none⟩) hb).trans q1
        have p2 := (B1.out.cell (p := ⟨b, o + j * 3 + 2, none⟩) hb).trans q2
        have ox := HL.out x (List.mem_of_getElem? hx)
        have PT := Lib.hid (prodL_take hn hx)
        have pb := prodL_bd (L.take (j + 1))
        have jp : IntKind.i64.wrap (p * siz x.1 x.2.1 x.2.2) = p * siz x.1 x.2.1 x.2.2 := IntWalk.i64_in _ (by rw [hp.out, ← PT.out]; omega)
        have jw : IntKind.i64.wrap ((j : Int) + 1) = (j : Int) + 1 := IntWalk.i64_in _ (by omega)
        have gb := B1.out.size
        clear q0 q1 q2 hx pb
        go_wp2_with fail
        refine (Size_any x.1 x.2.1 x.2.2 _ ox.1 ox.2.1 ox.2.2).mono ?_
        rintro e w2 ⟨rfl, hb2⟩
        have B2 := Lib.hid (B1.out.trans ((res1b hb2).1.mono gb))
        clear hb2 B1 p0 p1 p2
        go_wp2_with fail
        go_roundg (L.length - j)
        case measure => exact KG.out
        case rel => exact ⟨j + 1, _, by go_num, rfl, ⟨by omega, by omega⟩, Lib.hid (by rw [PT.out, hp.out]), B2⟩
      · obtain rfl : j = L.length := by omega
        have E : Hid (prodL L = p) := Lib.hid (by have := hp.out; rw [List.take_length] at this; exact this.symm)
        go_wp2
        exact bodyPost_ret (v := .int .i64 p) (by simp [results, Try.results164, go_sem, *]) rfl ⟨by rw [E.out], B1.out⟩
/-- the number of indices of a domain -/
def dsiz (L : List R3) (k s h : Int) : Int := if dchk L k s h = 0 then prodL L else 0
theorem dchk_rank {L : List R3} {k s h : Int} (hd : dchk L k s h = 0) : L.length = 1 ∨ L.length = 2 := by
  unfold dchk at hd
  by_cases c : rankB L.length = true
  · unfold rankB at c; simpa using c
  · rw [if_neg c] at hd; omega
theorem resD {w w1 : World} {t : TypeId} {a b c d : Value} (hb : Below (w.alloc (.cells #[a, b, c, d] t)).heap.size (w.alloc (.cells #[a, b, c, d] t)) w1) : Below w.heap.size w w1 ∧ Blk w.heap.size a b c d w1 :=
  ⟨((below_new _ _)).trans (hb.mono (by simp)), (Blk.new a b c d t w).keep hb⟩
set_option maxRecDepth 100000 in
set_option maxHeartbeats 3200000 in
theorem Dsize_any (v : Value) (L : List R3) (k s h : Int) (w : World) (hr : Rd w v L) (hL : Ok3 L) :
    Calls Try.prog 71 #[.agg #[v, .int .i64 k, .int .i64 s, .int .i64 h]] w fun e w' => e = .returned (.int .i64 (dsiz L k s h)) ∧ Below w.heap.size w w' := by
  obtain ⟨ao, cap, rfl, hc⟩ := hr
  have HR : Hid (Rd w (.slice ao L.length cap) L) := Lib.hid ⟨ao, cap, rfl, hc⟩
  have HL := Lib.hid hL
  clear hc hL
  go_enter Try.func71, Try.ntmps71
  go_wp2_with fail
  refine (Dcheck_any _ L _ _ _ _ (HR.out.keep (below_new _ _)) HL.out).mono ?_
  rintro e w1 ⟨rfl, hb1⟩
  have R1 := resD hb1
  have B1 := Lib.hid R1.1
  have D1 := Lib.hid R1.2
  clear hb1 R1
  by_cases c : dchk L k s h = 0
  · have c' : (dchk L k s h != 0) = false := by simp [c]
    have E : Hid (dsiz L k s h = prodL L) := Lib.hid (by unfold dsiz; rw [if_pos c])
    have N := Lib.hid (dchk_rank c)
    have x0 := D1.out.c0
    clear c
    go_wp2_with fail
    refine (product_any _ L _ (HR.out.keep B1.out) HL.out (by have := N.out; omega)).mono ?_
    rintro e w2 ⟨rfl, hb2⟩
    have B2 := Lib.hid (B1.out.trans (hb2.mono B1.out.size))
    clear hb2
    go_wp2
    go_ret
    exact ⟨by rw [E.out]; rfl, B2.out⟩
  · have c' : (dchk L k s h != 0) = true := by simp [c]
    have E : Hid (dsiz L k s h = 0) := Lib.hid (by unfold dsiz; rw [if_neg c])
    clear c
    go_wp2
    go_ret
    exact ⟨by rw [E.out]; rfl, B1.out⟩
theorem res44 {w w1 : World} {t t' : TypeId} {a b c d a' b' c' d' : Value} (hb : Below ((w.alloc (.cells #[a, b, c, d] t)).alloc (.cells #[a', b', c', d'] t')).heap.size ((w.alloc (.cells #[a, b, c, d] t)).alloc (.cells #[a', b', c', d'] t')) w1) :
    Below w.heap.size w w1 ∧ Blk w.heap.size a b c d w1 ∧ Blk (w.heap.size + 1) a' b' c' d' w1 := by
  have n0 := Blk.new a b c d t w
  have n1 := Blk.new a' b' c' d' t' (w.alloc (.cells #[a, b, c, d] t))
  have m0 := n0.keep (w1 := (w.alloc (.cells #[a, b, c, d] t)).alloc (.cells #[a', b', c', d'] t')) (below_new _ _)
  have e1 : (w.alloc (.cells #[a, b, c, d] t)).heap.size = w.heap.size + 1 := by simp
  rw [e1] at n1
  exact ⟨(((Below.refl _ _).alloc (Nat.le_refl _) _).alloc (by simp) _).trans (hb.mono (by simp; omega)), m0.keep hb, n1.keep hb⟩
end Go.Proofs.Ytcpeailodgoilaa
namespace Go.Proofs.Ytcpeailodgoilaa
open Go.RowKit
/-- each's blocks -/
structure ESt (w : World) (v : Value) (k s h : Int) (X : List R3) (ao : Option Addr) (cap : Nat) (wr : World) : Prop where
  below : Below w.heap.size w wr
  d : Blk w.heap.size v (.int .i64 k) (.int .i64 s) (.int .i64 h) wr
  z : Blk (w.heap.size + 1) (.slice none 0 0) (.int .i64 0) (.int .i64 0) (.int .i64 0) wr
  r : Blk (w.heap.size + 1 + 1) (.slice ao X.length cap) (.int .i64 k) (.int .i64 s) (.int .i64 h) wr
  size : w.heap.size + 3 ≤ wr.heap.size
  own : wr.ownsRow (w.heap.size + 3) 23 3 (.slice ao X.length cap) X.length (cells3 X)
theorem ESt.keep {w : World} {v : Value} {k s h : Int} {X : List R3} {ao : Option Addr} {cap : Nat} {wa wb : World} (t : ESt w v k s h X ao cap wa) (hb : Below wa.heap.size wa wb) : ESt w v k s h X ao cap wb :=
  ⟨t.below.trans (hb.mono t.below.size), t.d.keep hb, t.z.keep hb, t.r.keep hb, Nat.le_trans t.size hb.size, owns_below t.own hb⟩
theorem ESt.new {w : World} {v : Value} {k s h : Int} {t : TypeId} : ESt w v k s h [] none 0 (((w.alloc (.cells #[v, .int .i64 k, .int .i64 s, .int .i64 h] t)).alloc (.cells #[.slice none 0 0, .int .i64 0, .int .i64 0, .int .i64 0] t)).alloc (.cells #[.slice none 0 0, .int .i64 k, .int .i64 s, .int .i64 h] t)) := by
  have s1 : (w.alloc (.cells #[v, .int .i64 k, .int .i64 s, .int .i64 h] t)).heap.size = w.heap.size + 1 := by simp
  have s2 : ((w.alloc (.cells #[v, .int .i64 k, .int .i64 s, .int .i64 h] t)).alloc (.cells #[.slice none 0 0, .int .i64 0, .int .i64 0, .int .i64 0] t)).heap.size = w.heap.size + 1 + 1 := by simp
  refine ⟨(((Below.refl _ _).alloc (Nat.le_refl _) _).alloc (by simp) _).alloc (by simp; omega) _, ?_, ?_, ?_, by simp, World.ownsRow_nil _ _ _ _⟩
  · exact ((Blk.new _ _ _ _ t w).keep (below_new _ _)).keep (below_new _ _)
  · rw [← s1]; exact (Blk.new _ _ _ _ t _).keep (below_new _ _)
  · rw [← s2]; exact Blk.new _ _ _ _ t _
theorem blk_else {g : Nat} {a b c d : Value} {w : World} (h : Blk g a b c d w) {p : Nat} (hne : g ≠ p) (u : Value) : Blk g a b c d (w.setCell ⟨p, 0, none⟩ u) := by
  obtain ⟨s, c0, c1, c2, c3, f0, f1, f2, f3⟩ := h
  constructor
  · simp [World.setCell]; exact s
  all_goals simp [go_sem, *]
theorem blk_first {g : Nat} {a b c d : Value} {w : World} (h : Blk g a b c d w) (u : Value) : Blk g u b c d (w.setCell ⟨g, 0, none⟩ u) := by
  obtain ⟨s, c0, c1, c2, c3, f0, f1, f2, f3⟩ := h
  constructor
  · simp [World.setCell]; exact s
  all_goals simp [go_sem, *]
theorem blk_under {g B : Nat} {a b c d : Value} {w w1 : World} (k : Blk g a b c d w) (hb : Below B w w1) (hg : g < B) : Blk g a b c d w1 :=
  ⟨Nat.lt_of_lt_of_le k.size hb.size, (hb.cell (p := ⟨g, 0, none⟩) hg).trans k.c0, (hb.cell (p := ⟨g, 1, none⟩) hg).trans k.c1, (hb.cell (p := ⟨g, 2, none⟩) hg).trans k.c2, (hb.cell (p := ⟨g, 3, none⟩) hg).trans k.c3,
    (hb.frozen (p := ⟨g, 0, none⟩) hg).trans k.f0, (hb.frozen (p := ⟨g, 1, none⟩) hg).trans k.f1, (hb.frozen (p := ⟨g, 2, none⟩) hg).trans k.f2, (hb.frozen (p := ⟨g, 3, none⟩) hg).trans k.f3⟩
/-- a range more -/
theorem ESt.add {w : World} {v : Value} {k s h : Int} {X : List R3} {ao : Option Addr} {cap : Nat} {wa wb : World} (t : ESt w v k s h X ao cap wa) {ao' : Option Addr} {cap' : Nat}
    {x : R3} (own : wb.ownsRow (w.heap.size + 3) 23 3 (.slice ao' (X.length + 1) cap') (X.length + 1) (cells3 X ++ cells3 [x])) (grow : wa.grownBy wb (Value.slice ao X.length cap).ownBlock) :
    ESt w v k s h (X ++ [x]) ao' cap' (wb.setCell ⟨w.heap.size + 1 + 1, 0, none⟩ (.slice ao' (X.length + 1) cap')) := by
  have B3 : Below (w.heap.size + 3) wa wb := (Below.refl _ _).grown grow t.size (fun g hg => (t.own.lt g hg).1)
  have e : (X ++ [x]).length = X.length + 1 := by simp
  refine ⟨(t.below.trans (B3.mono (by omega))).setCell (by simp; omega) _, blk_else (blk_under t.d B3 (by omega)) (by omega) _, blk_else (blk_under t.z B3 (by omega)) (by omega) _, ?_, ?_, ?_⟩
  · rw [e]; exact blk_first (blk_under t.r B3 (by omega)) _
  · have := t.size; have := B3.size; simp [World.setCell]; omega
  · rw [e, cells3_append]
    exact ownsRow_setCell_below own (by simp) _
end Go.Proofs.Ytcpeailodgoilaa
namespace Go.Proofs.Ytcpeailodgoilaa
open Go.RowKit
set_option maxRecDepth 100000 in
set_option maxHeartbeats 3200000 in
theorem equalI_none (a1 a2 : Option Addr) (c1 c2 : Nat) (w : World) :
    Calls Try.prog 57 #[.slice a1 0 c1, .slice a2 0 c2] w fun e w' => e = .returned (.bool true) ∧ Below w.heap.size w w' := by
  go_enter Try.func57, Try.ntmps57
  go_wp2_with fail
  go_loopg [5, 13] 1 (fun gh _ v13 wr => v13 = .int .i64 0 ∧ 0 < gh ∧ wr = w)
  case atStart => exact ⟨rfl, by omega, rfl⟩
  case round =>
    obtain ⟨rfl, h0, rfl⟩ := hrel
    go_wp2
    exact bodyPost_ret (v := .bool true) (by simp [results, Try.results57, go_sem, *]) rfl ⟨rfl, Below.refl _ _⟩
end Go.Proofs.Ytcpeailodgoilaa
namespace Go.Proofs.Ytcpeailodgoilaa
open Go.RowKit
/-- a right range that is not empty, as steps -/
theorem steps {l h s : Int} (hk : chk l h s = 0) (hle : l ≤ h) : h - l = (siz l h s - 1) * magA s ∧ 1 ≤ siz l h s ∧ 1 ≤ magA s ∧ s ≠ 0 := by
  have e := siz_ok hk hle
  rcases chk_zero hk with ⟨rfl, rfl, rfl⟩ | ⟨a1, a2, a3, a4, a5, a6, a7, a8, a9, _⟩
  · omega
  · have q := quo_bd (h - l) (magA s) (by omega) a7
    refine ⟨?_, by omega, a7, a4⟩
    have := ediv_mul (h - l) (magA s)
    rw [e, show (h - l) / magA s + 1 - 1 = (h - l) / magA s by omega, this]; omega
end Go.Proofs.Ytcpeailodgoilaa
namespace Go.Proofs.Ytcpeailodgoilaa
open Go.RowKit Go.Shelf
attribute [local go_sem] Oper.semAt_some
/-- the cells of a list of ranges -/
def At3 (w : World) (b o : Nat) (L : List R3) : Prop := ∀ (j : Nat) (x : R3), L[j]? = some x → w.cell? ⟨b, o + j * 3, none⟩ = some (.int .i64 x.1) ∧ w.cell? ⟨b, o + j * 3 + 1, none⟩ = some (.int .i64 x.2.1) ∧ w.cell? ⟨b, o + j * 3 + 2, none⟩ = some (.int .i64 x.2.2)
theorem At3.under {w w' : World} {b o B : Nat} {L : List R3} (h : At3 w b o L) (hb : Below B w w') (hlt : b < B) : At3 w' b o L := fun j x hx =>
  ⟨(hb.cell (p := ⟨b, o + j * 3, none⟩) hlt).trans (h j x hx).1, (hb.cell (p := ⟨b, o + j * 3 + 1, none⟩) hlt).trans (h j x hx).2.1, (hb.cell (p := ⟨b, o + j * 3 + 2, none⟩) hlt).trans (h j x hx).2.2⟩
theorem row1 {w : World} {g : Nat} {a : Value} {t : TypeId} (h : w.heap[g]? = some (.cells #[a] t (0, 0))) : w.cell? ⟨g, 0, none⟩ = some a := by simp [World.cell?, h]
end Go.Proofs.Ytcpeailodgoilaa
namespace Go.Proofs.Ytcpeailodgoilaa
open Go.RowKit Go.Shelf
attribute [local go_sem] Oper.semAt_some
/-- a block of ints -/
def RowB (w : World) (g : Nat) (R : List Int) : Prop := w.heap[g]? = some (.cells (R.map (Value.int .i64)).toArray 3 (0, 0))
theorem RowB.cell {w : World} {g : Nat} {R : List Int} (h : RowB w g R) {j : Nat} {y : Int} (hy : R[j]? = some y) : w.cell? ⟨g, j, none⟩ = some (.int .i64 y) := by
  have h' : w.heap[g]? = some (.cells (R.map (Value.int .i64)).toArray 3 (0, 0)) := h
  simp [World.cell?, h', hy]
theorem RowB.frozen {w : World} {g : Nat} {R : List Int} (h : RowB w g R) (j : Nat) : w.frozen? ⟨g, j, none⟩ = false := by
  have h' : w.heap[g]? = some (.cells (R.map (Value.int .i64)).toArray 3 (0, 0)) := h
  simp [World.frozen?, h']
theorem RowB.lt {w : World} {g : Nat} {R : List Int} (h : RowB w g R) : g < w.heap.size := (Array.getElem?_eq_some_iff.1 h).1
theorem RowB.else {w : World} {g C : Nat} {R : List Int} (h : RowB w g R) (hne : g ≠ C) (o : Nat) (v : Value) : RowB (w.setCell ⟨C, o, none⟩ v) g R := (Below.heap_setCell w ⟨C, o, none⟩ v g hne).trans h
theorem RowB.of_own {w : World} {base g n : Nat} {R : List Int} (hn : ¬ n = 0) (h : w.ownsRow base 3 1 (.slice (some ⟨g, 0, none⟩) n n) n (R.map (Value.int .i64))) : RowB w g R := by
  rcases h.2 with ⟨_, e⟩ | ⟨g', cap, cur, e, _, hg, _, _, hs, ht⟩
  · exact absurd e hn
  · injection e with e1 e2 e3
    cases e1; subst e3
    unfold RowB
    rw [hg]
    congr 1
    have : cur.toList = R.map (Value.int .i64) := by rw [← ht, List.take_of_length_le (by simp [hs])]
    rw [← this]
theorem RowB.own {w : World} {base g n : Nat} {R : List Int} (h : RowB w g R) (hb : base ≤ g) (hn : R.length = n) (hm : n ≤ maxLen) : w.ownsRow base 3 1 (.slice (some ⟨g, 0, none⟩) n n) n (R.map (Value.int .i64)) :=
  ⟨by simp [hn], Or.inr ⟨g, n, _, rfl, hb, h, Nat.le_refl _, hm, by simp [hn], by rw [List.take_of_length_le (by simp [hn])]⟩⟩
theorem to_drew {w w' : World} {B : Nat} (h : Below B w w') : Below B w w'.drew := ⟨h.os, h.tape, h.output, h.size, h.block⟩
end Go.Proofs.Ytcpeailodgoilaa
namespace Go.Proofs.Ytcpeailodgoilaa
open Go.RowKit
theorem At3.news : ∀ {X : List R3} {w : World} {b o : Nat}, At3 w b o X → ∀ (j : Nat) (u : Value), (cells3 X)[j]? = some u → w.cell? ((⟨b, o, none⟩ : Addr).add j) = some u
  | [], w, b, o, _, j, u, hu => by simp [cells3] at hu
  | (x0, x1, x2) :: X, w, b, o, h, j, u, hu => by
    have h0 := h 0 (x0, x1, x2) rfl
    have ht : At3 w b (o + 3) X := fun k y hy => by
      have := h (k + 1) y (by simpa using hy)
      have e : o + (k + 1) * 3 = o + 3 + k * 3 := by omega
      rw [e] at this; exact this
    match j, hu with
    | 0, hu => simp [cells3] at hu; subst hu; simpa [Addr.add] using h0.1
    | 1, hu => simp [cells3] at hu; subst hu; simpa [Addr.add] using h0.2.1
    | 2, hu => simp [cells3] at hu; subst hu; simpa [Addr.add] using h0.2.2
    | j + 3, hu =>
      have hu' : (cells3 X)[j]? = some u := by simpa [cells3] using hu
      have := At3.news ht j u hu'
      have e : o + (j + 3) = o + 3 + j := by omega
      by_cases j0 : j = 0 <;> simpa [Addr.add, j0, e] using this
/-- a slice at an address reads as a list -/
def Src (w : World) (v : Value) (X : List R3) : Prop := ∃ b o cap : Nat, v = .slice (some ⟨b, o, none⟩) X.length cap ∧ b < w.heap.size ∧ At3 w b o X
theorem Src.keep {w w' : World} {v : Value} {X : List R3} (h : Src w v X) (hb : Below w.heap.size w w') : Src w' v X := by
  obtain ⟨b, o, cap, e, hlt, hc⟩ := h
  exact ⟨b, o, cap, e, Nat.lt_of_lt_of_le hlt hb.size, hc.under hb hlt⟩
/-- what a function returns that makes a slice of ranges of its own -/
def RowRet (X : List R3) (w : World) : Ending → World → Prop := fun e w' => ∃ v, e = .returned v ∧ Hid (w'.ownsRow w.heap.size 23 3 v X.length (cells3 X)) ∧ Below w.heap.size w w'
set_option maxRecDepth 100000 in
set_option maxHeartbeats 3200000 in
theorem cloneR_any (b o cap : Nat) (X : List R3) (w : World) (hb : b < w.heap.size) (hc : Hid (At3 w b o X)) (hn : X.length ≤ 1000) :
    Calls Try.prog 219 #[.slice (some ⟨b, o, none⟩) X.length cap] w (RowRet X w) := by
  obtain ⟨i0, hi, hz0, hz1, hz2⟩ := info_parts Try.infoRange
  go_enter Try.func219, Try.ntmps219
  have en := run_eql_slice_nil (P := Try.prog) w 40 23 (some ⟨b, o, none⟩) X.length cap Try.underlying40
  have own0 : Hid ((w.alloc (.cells #[] 23)).ownsRow w.heap.size 23 3 (.slice (some ⟨w.heap.size, 0, none⟩) 0 0) 0 []) := Lib.hid (World.ownsRow_made w #[] 0 (Nat.le_refl _) (by unfold maxLen; omega) rfl)
  have nw := Lib.hid (hc.out.under (below_new w (.cells #[] 23)) hb).news
  go_upto_region 3 with fail
  go_wp2_with (first | (at_builtin; refine wpList_append_own _ rfl (.tmp 5) (.tmp 6) 40 rfl w.heap.size 23 i0 (.agg #[.int .i64 0, .int .i64 0, .int .i64 0]) 3 24 Try.underlying40 hi hz0 hz1 hz2 rfl (by decide) _ _ _ rfl own0.out ⟨b, o, none⟩ X.length cap (cells3 X) rfl (cells3_length X) nw.out (cells3_one X) (by unfold maxLen; omega) (by omega) (by simp) ?_))
  intro v' w1 own' grow' _
  have O' : Hid (w1.ownsRow w.heap.size 23 3 v' X.length (cells3 X)) := Lib.hid (by simpa using own')
  have B' : Hid (Below w.heap.size w w1) := Lib.hid ((below_new w (.cells #[] 23)).trans ((Below.refl _ _).grown grow' (by simp) (fun k' e' => (own0.out.lt k' e').1)))
  clear own' grow'
  go_wp2
  exact bodyPost_ret (v := v') (by simp [results, Try.results219, go_sem, *]) rfl ⟨_, rfl, O', B'.out⟩
end Go.Proofs.Ytcpeailodgoilaa
namespace Go.Proofs.Ytcpeailodgoilaa
open Go.RowKit
theorem res44a (w : World) (t : TypeId) (a b c d a' b' c' d' : Value) :
    Below w.heap.size w ((w.alloc (.cells #[a, b, c, d] t)).alloc (.cells #[a', b', c', d'] t)) ∧ Blk w.heap.size a b c d ((w.alloc (.cells #[a, b, c, d] t)).alloc (.cells #[a', b', c', d'] t)) ∧ Blk (w.heap.size + 1) a' b' c' d' ((w.alloc (.cells #[a, b, c, d] t)).alloc (.cells #[a', b', c', d'] t)) :=
  res44 (Below.refl _ _)
/-- what with returns -/
def DWithRet (X : List R3) (k s h : Int) (w : World) : Ending → World → Prop := fun e w' => ∃ v, e = .returned (.agg #[v, .int .i64 k, .int .i64 s, .int .i64 h]) ∧ Hid (w'.ownsRow w.heap.size 23 3 v X.length (cells3 X)) ∧ Below w.heap.size w w'
end Go.Proofs.Ytcpeailodgoilaa
namespace Go.Proofs.Ytcpeailodgoilaa
open Go.RowKit
/-- the cells of a list of domains with one map -/
def cells4 (us : List Value) (k s h : Int) : List Value := us.flatMap fun u => [u, .int .i64 k, .int .i64 s, .int .i64 h]
theorem cells4_append (us vs : List Value) (k s h : Int) : cells4 (us ++ vs) k s h = cells4 us k s h ++ cells4 vs k s h := by simp [cells4]
/-- a slice that a function made reads as a list of domains -/
def OwnD (base : Nat) (w : World) (v : Value) (Ds : List (List R3)) (k s h : Int) : Prop := ∃ us : List Value, us.length = Ds.length ∧ w.ownsRow base 62 4 v us.length (cells4 us k s h) ∧
  ∀ (j : Nat) (u : Value) (D : List R3), us[j]? = some u → Ds[j]? = some D → w.ownsRow base 23 3 u D.length (cells3 D)
theorem OwnD.nil (base : Nat) (w : World) (k s h : Int) : OwnD base w (.slice none 0 0) [] k s h := ⟨[], rfl, World.ownsRow_nil _ _ _ _, fun j u D hu => by simp at hu⟩
theorem OwnD.keep {base : Nat} {w w' : World} {v : Value} {Ds : List (List R3)} {k s h : Int} (o : OwnD base w v Ds k s h) (hb : Below w.heap.size w w') : OwnD base w' v Ds k s h := by
  obtain ⟨us, e, r, x⟩ := o
  exact ⟨us, e, owns_below r hb, fun j u D hu hD => owns_below (x j u D hu hD) hb⟩
theorem OwnD.base {base b' : Nat} {w : World} {v : Value} {Ds : List (List R3)} {k s h : Int} (o : OwnD base w v Ds k s h) (hb : b' ≤ base) : OwnD b' w v Ds k s h := by
  obtain ⟨us, e, r, x⟩ := o
  exact ⟨us, e, owns_base r hb, fun j u D hu hD => owns_base (x j u D hu hD) hb⟩
/-- rows of ranges and rows of domains lie apart -/
theorem owns_apart {b1 b2 : Nat} {w : World} {u v : Value} {n m : Nat} {xs ys : List Value} (h1 : w.ownsRow b1 23 3 u n xs) (h2 : w.ownsRow b2 62 4 v m ys) : u.ownBlock = none ∨ u.ownBlock ≠ v.ownBlock := by
  rcases h1.2 with ⟨rfl, _⟩ | ⟨g, cap, cur, rfl, _, hg, _⟩
  · exact Or.inl rfl
  · right
    rcases h2.2 with ⟨rfl, _⟩ | ⟨g', cap', cur', rfl, _, hg', _⟩
    · simp [Value.ownBlock]
    · intro e
      have e' : g = g' := by simpa [Value.ownBlock] using e
      subst e'
      rw [hg] at hg'
      simp at hg'
/-- a row of ranges lies as it lay behind an append to a row of domains -/
theorem owns_kept {b1 b2 : Nat} {w w' : World} {u v : Value} {n m : Nat} {xs ys : List Value} (h1 : w.ownsRow b1 23 3 u n xs) (h2 : w.ownsRow b2 62 4 v m ys) (hg : w.grownBy w' v.ownBlock) : w'.ownsRow b1 23 3 u n xs :=
  h1.kept hg (owns_apart h1 h2)
/-- a domain more -/
theorem OwnD.add {base : Nat} {w w' : World} {v v' : Value} {Ds : List (List R3)} {k s h : Int} {u : Value} {D : List R3} {o : Obj} {us : List Value} (e : us.length = Ds.length) (r : w.ownsRow base 62 4 v us.length (cells4 us k s h))
    (x : ∀ (j : Nat) (u : Value) (D : List R3), us[j]? = some u → Ds[j]? = some D → w.ownsRow base 23 3 u D.length (cells3 D)) (hu : w.ownsRow base 23 3 u D.length (cells3 D))
    (own' : w'.ownsRow base 62 4 v' (us.length + 1) (cells4 us k s h ++ cells4 [u] k s h)) (grow : (w.alloc o).grownBy w' v.ownBlock) : OwnD base w' v' (Ds ++ [D]) k s h := by
  have r' := r.alloc o
  refine ⟨us ++ [u], by simp [e], ?_, fun j a E ha hE => ?_⟩
  · rw [List.length_append, cells4_append]; exact own'
  · by_cases c : j < us.length
    · rw [List.getElem?_append_left c] at ha
      rw [List.getElem?_append_left (by omega)] at hE
      exact owns_kept ((x j a E ha hE).alloc o) r' grow
    · have cj : j = us.length := by
        have := (List.getElem?_eq_some_iff.1 ha).1
        simp at this; omega
      subst cj
      rw [List.getElem?_append_right (by omega)] at ha hE
      simp at ha
      simp [e] at hE
      subst ha; subst hE
      exact owns_kept (hu.alloc o) r' grow
theorem At3.take {w : World} {b o : Nat} {X : List R3} (h : At3 w b o X) (n : Nat) : At3 w b o (X.take n) := fun j x hx => by
  by_cases c : j < n
  · rw [List.getElem?_take_of_lt c] at hx; exact h j x hx
  · rw [List.getElem?_eq_none (by simp; omega)] at hx; cases hx
theorem At3.drop {w : World} {b o : Nat} {X : List R3} (h : At3 w b o X) (n : Nat) : At3 w b (o + n * 3) (X.drop n) := fun j x hx => by
  rw [List.getElem?_drop] at hx
  have := h (n + j) x hx
  have e : o + (n + j) * 3 = o + n * 3 + j * 3 := by omega
  rw [e] at this; exact this
end Go.Proofs.Ytcpeailodgoilaa
namespace Go.Proofs.Ytcpeailodgoilaa
open Go.RowKit
theorem owns_under {w w' : World} {base B : Nat} {e : TypeId} {size : Nat} {v : Value} {n : Nat} {xs : List Value} (h : w.ownsRow base e size v n xs) (hb : Below B w w') (hlt : ∀ g, v.ownBlock = some g → g < B) : w'.ownsRow base e size v n xs := by
  refine ⟨h.1, ?_⟩
  rcases h.2 with hn | ⟨g, cap, cur, rfl, hg, hh, rest⟩
  · exact Or.inl hn
  · exact Or.inr ⟨g, cap, cur, rfl, hg, (hb.block g (hlt g rfl)).trans hh, rest⟩
/-- the blocks of Subtract -/
structure SbSt (w : World) (av : Value) (k s h : Int) (bv : Value) (k' s' h' : Int) (cb : Nat) (cv : Value) (C : List R3) (wx : World) : Prop where
  below : Below w.heap.size w wx
  a : Blk w.heap.size av (.int .i64 k) (.int .i64 s) (.int .i64 h) wx
  b : Blk (w.heap.size + 1) bv (.int .i64 k') (.int .i64 s') (.int .i64 h') wx
  c : Blk cb cv (.int .i64 k) (.int .i64 s) (.int .i64 h) wx
  row : wx.ownsRow w.heap.size 23 3 cv C.length (cells3 C)
  rlt : ∀ g, cv.ownBlock = some g → g < cb
  cbl : w.heap.size + 1 < cb
theorem SbSt.under {w : World} {av : Value} {k s h : Int} {bv : Value} {k' s' h' : Int} {cb : Nat} {cv : Value} {C : List R3} {wx wy : World} {B : Nat} (t : SbSt w av k s h bv k' s' h' cb cv C wx) (hb : Below B wx wy) (hB : cb < B) : SbSt w av k s h bv k' s' h' cb cv C wy :=
  ⟨t.below.trans (hb.mono (by have := t.cbl; omega)), blk_under t.a hb (by have := t.cbl; omega), blk_under t.b hb (by have := t.cbl; omega), blk_under t.c hb hB, owns_under t.row hb (fun g hg => Nat.lt_trans (t.rlt g hg) hB), t.rlt, t.cbl⟩
theorem SbSt.keep {w : World} {av : Value} {k s h : Int} {bv : Value} {k' s' h' : Int} {cb : Nat} {cv : Value} {C : List R3} {wx wy : World} (t : SbSt w av k s h bv k' s' h' cb cv C wx) (hb : Below wx.heap.size wx wy) : SbSt w av k s h bv k' s' h' cb cv C wy :=
  t.under hb t.c.size
end Go.Proofs.Ytcpeailodgoilaa
