/-
  The closure of without, which cuts a piece and appends it.
-/
import Derived.Test.YtdifilndpilboaaSubA
import Derived.WalkKit
import Derived.Deep.RegionWith
import Derived.Deep.DeepCutAuto
import Derived.Deep.LoopGhost
import Derived.Deep.CutBlock
import Derived.WalkSpells
import Derived.WalkLawsBesides
import Derived.BigQuiet
import Derived.Deep.QuietTactic
import Derived.Deep.RegionHeld3
import Derived.Deep.DrawnRows
import Derived.Deep.AppendLies
import Derived.Deep.RegionLaw
import Derived.Lib.Hide
namespace Go.Proofs.Ytdifilndpilboaa
open Go.RowKit

/-- below block B only block g may have changed -/
structure Apart (B g : Nat) (w w' : World) : Prop where
  os : w'.os = w.os
  tape : w'.tape = w.tape
  output : w'.output = w.output
  size : w.heap.size ≤ w'.heap.size
  block : ∀ k, k < B → k ≠ g → w'.heap[k]? = w.heap[k]?
theorem Apart.cell {B g : Nat} {w w' : World} (h : Apart B g w w') {p : Addr} (hp : p.block < B) (hg : p.block ≠ g) : w'.cell? p = w.cell? p := World.cell?_of_block (w := w) (h.block p.block hp hg)
theorem Apart.below {B g C : Nat} {w w' : World} (h : Apart B g w w') (h1 : C ≤ g) (h2 : C ≤ B) : Below C w w' := ⟨h.os, h.tape, h.output, h.size, fun k hk => h.block k (by omega) (by omega)⟩
theorem Apart.of_below {B g : Nat} {w w' : World} (h : Below B w w') : Apart B g w w' := ⟨h.os, h.tape, h.output, h.size, fun k hk _ => h.block k hk⟩
theorem Apart.setCell {B g : Nat} {a w : World} (h : Apart B g a w) (u : Value) : Apart B g a (w.setCell ⟨g, 0, none⟩ u) :=
  ⟨h.os, h.tape, h.output, by simpa [World.setCell] using h.size, fun k hk hg => (Below.heap_setCell w ⟨g, 0, none⟩ u k hg).trans (h.block k hk hg)⟩
/-- the variable g holds a slice of a list -/
def HoldsL (base g : Nat) (L : List R3) (w : World) : Prop := ∃ ao cap, w.cell? ⟨g, 0, none⟩ = some (.slice ao L.length cap) ∧ w.frozen? ⟨g, 0, none⟩ = false ∧ w.ownsRow base 23 3 (.slice ao L.length cap) L.length (cells3 L)
def CutRet (base g : Nat) (L : List R3) (w : World) : Ending → World → Prop := fun e w' => e = .returned (.tuple #[]) ∧ HoldsL base g L w' ∧ Apart base g w w'

theorem holds_next {base g gg cap2 : Nat} {L : List R3} {lo hi st : Int} {dn : Bool} {w2 : World} {old : Value} (c : lo ≤ hi) (own2 : w2.ownsRow base 23 3 (.slice (some ⟨gg, 0, none⟩) (L.length + 1) cap2) (L.length + 1) (cells3 L ++ cells3 [nrm lo hi st dn]))
    (hg : g < base) (q0 : w2.cell? ⟨g, 0, none⟩ = some old) (q1 : w2.frozen? ⟨g, 0, none⟩ = false) : HoldsL base g (addP L lo hi st dn) (w2.setCell ⟨g, 0, none⟩ (.slice (some ⟨gg, 0, none⟩) (L.length + 1) cap2)) := by
  unfold addP
  rw [if_pos c]
  refine ⟨some ⟨gg, 0, none⟩, cap2, ?_, ?_, ?_⟩
  · rw [List.length_append]; simp [go_sem, q0]
  · simp [go_sem, q1]
  · rw [List.length_append, cells3_append]; exact ownsRow_setCell_below own2 hg _

set_option maxRecDepth 100000 in
set_option maxHeartbeats 3200000 in
theorem cut_any (lo hi st : Int) (dn : Bool) (L : List R3) (base g ba : Nat) (w : World) (hL : HoldsL base g L w) (hd : w.cell? ⟨ba, 3, none⟩ = some (.bool dn)) (hg : g < base) (hba : ba < base) (_hne : ba ≠ g) (hb : base ≤ w.heap.size) (hn : L.length ≤ 5000) (s1 : -4000000000000 ≤ st) (s2 : st ≤ 4000000000000) :
    Calls Try.prog 150 #[.int .i64 lo, .int .i64 hi, .int .i64 st, .pointer (some ⟨g, 0, none⟩), .pointer (some ⟨ba, 0, none⟩)] w (CutRet base g (addP L lo hi st dn) w) := by
  obtain ⟨ao, cap, hc, hf, hown⟩ := hL
  obtain ⟨i0, hi0, hz0, hz1, hz2⟩ := info_parts Try.infoRange
  have hl := cells3_length L
  have OWN := Lib.hid hown
  clear hown
  by_cases c : lo ≤ hi
  · have C := Lib.hid c
    go_enter Try.func150, Try.ntmps150
    go_upto_region 1 with fail
    clear c
    have z0 := Lib.hid hb
    go_region_law (first
      | (go_simp; go_at_call 96; refine (normal_any _ _ _ _ _ (by omega) (by omega)).mono ?_
         rintro e w1 ⟨rfl, hb1⟩
         have z1 : w.heap.size ≤ w1.heap.size := hb1.size
         have zg1 : g < w1.heap.size := by omega
         have hc1 : w1.cell? ⟨g, 0, none⟩ = some (.slice ao L.length cap) := (hb1.cell (p := ⟨g, 0, none⟩) (show g < w.heap.size by omega)).trans hc
         have hf1 : w1.frozen? ⟨g, 0, none⟩ = false := (hb1.frozen (p := ⟨g, 0, none⟩) (show g < w.heap.size by omega)).trans hf
         have hd1 : w1.cell? ⟨ba, 3, none⟩ = some (.bool dn) := (hb1.cell (p := ⟨ba, 3, none⟩) (show ba < w.heap.size by omega)).trans hd
         have HB1 : Hid (Below w.heap.size w w1) := Lib.hid ⟨hb1.os, hb1.tape, hb1.output, hb1.size, hb1.block⟩
         have OWN1 := Lib.hid (owns_below OWN.out HB1.out)
         clear hb1)
      | (refine step_append_lies _ rfl (.tmp 11) (.tmp 19) 40 rfl base 23 i0 (.agg #[.int .i64 0, .int .i64 0, .int .i64 0]) 3 24 Try.underlying40 hi0 hz0 hz1 hz2 rfl (by decide) _ L.length (cells3 L) (by simp [Act.eval]) (OWN1.out.alloc _) ⟨w1.heap.size, 0, none⟩ 1 1 (cells3 [nrm lo hi st dn]) (by simp [Act.eval]) rfl (World.news_of_block (cs := #[.int .i64 (nL lo hi), .int .i64 (nH lo hi), .int .i64 (nS lo hi st dn)]) (t := 23) (fr := (0, 0)) (heap_alloc_new w1 _)) (cells3_one _) (by omega) (by unfold maxLen; omega) (by omega) (by simp; omega) _ rfl ?_
         intro gg cap2 w2 own2 grow2 hat hlt
         have q0 : w2.cell? ⟨g, 0, none⟩ = some (.slice ao L.length cap) := (grow2.cell_far ⟨g, 0, none⟩ (by simp; omega) (fun e => by have h := (OWN1.out.lt _ e.symm).1; change base ≤ g at h; omega)).trans ((alloc_cell w1 _ (by simp; omega)).trans hc1)
         have q1 : w2.frozen? ⟨g, 0, none⟩ = false := (grow2.frozen_far ⟨g, 0, none⟩ (by simp; omega) (fun e => by have h := (OWN1.out.lt _ e.symm).1; change base ≤ g at h; omega)).trans ((alloc_frozen w1 _ (by simp; omega)).trans hf1)
         have OWN2 := Lib.hid own2
         have GROW2 := Lib.hid grow2
         clear own2 grow2 hat))
    all_goals go_wp2
    all_goals exact bodyPost_end (v := .tuple #[]) (by simp [results, Try.results150, go_sem]) rfl ⟨rfl, holds_next C.out OWN2.out hg q0 q1, (Apart.of_below (((HB1.out.mono hb).alloc (by omega) _).grown GROW2.out (by simp; omega) (fun k hk => (OWN1.out.lt k hk).1))).setCell _⟩
  · have E1 : Hid (addP L lo hi st dn = L) := Lib.hid (if_neg c)
    go_enter Try.func150, Try.ntmps150
    go_wp2
    rw [E1.out]
    exact bodyPost_end (v := .tuple #[]) (by simp [results, Try.results150, go_sem]) rfl ⟨rfl, ⟨ao, cap, hc, hf, OWN.out⟩, Apart.of_below (Below.refl _ _)⟩
end Go.Proofs.Ytdifilndpilboaa
