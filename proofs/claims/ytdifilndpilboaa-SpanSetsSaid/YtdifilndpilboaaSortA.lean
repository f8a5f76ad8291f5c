/-
  slices.Sort of a slice of ints that the call itself made; sorted, the numbers of a range in ascending order.
-/
import Derived.Test.YtdifilndpilboaaSetM
import Derived.Test.YtdifilndpilboaaByA
import Derived.Test.YtdifilndpilboaaShelf
import Derived.Sort.OwnSortedInts
import Derived.WalkKit
import Derived.WalkSpells
import Derived.WalkLawsBesides
import Derived.BigQuiet
import Derived.Deep.QuietTactic
import Derived.Deep.RegionHeld3
import Derived.Lib.Hide
namespace Go.Proofs.Ytdifilndpilboaa
open Go.RowKit

theorem sort_any (v : Value) (xs : List Int) (base : Nat) (w : World) (h : w.ownsRow base 3 1 v xs.length (xs.map (Value.int .i64))) (hn : xs.length ≤ 5000) :
    Calls Try.prog 51 #[v] w fun e w' => e = .returned (.tuple #[]) ∧ Hid (w'.ownsRow base 3 1 v xs.length ((srt xs).map (Value.int .i64))) ∧ w.grownBy w' v.ownBlock := by
  rcases h.2 with ⟨rfl, h0⟩ | ⟨g, cap, cur, rfl, hb, hg, hle, hm, hs, ht⟩
  · have e : xs = [] := List.eq_nil_of_length_eq_zero h0
    subst e
    refine (show Calls Try.prog 51 #[.slice none 0 0] w _ from Any.slices_Sort_int_none Try.lays189 none 0 w).mono ?_
    rintro e w' ⟨he, rfl⟩
    exact ⟨he, Lib.hid (by simpa [srt] using World.ownsRow_nil w' base 3 1), rfl, rfl, rfl, Nat.le_refl _, fun _ _ _ => rfl⟩
  · refine (Try.slices_Sort_int g 0 cap xs w (holds_of_blockI hg (by simpa using ht)) (Array.getElem?_eq_some_iff.1 hg).1 (by omega)).mono ?_
    rintro e w' ⟨he, n, os, rfl⟩
    exact ⟨he, Lib.hid (ownsRow_sortedI (srt_length xs) hb hg hle hm hs), grownBy_sortedI _⟩

set_option maxHeartbeats 1600000 in
theorem sorted_any (l h s : Int) (w : World) (hk : Hid (chk l h s = 0)) (hn : siz l h s ≤ 400) :
    Calls Try.prog 55 #[.agg #[.int .i64 l, .int .i64 h, .int .i64 s]] w (NumRet (srt (numsL l h s)) w) := by
  have sb := siz_bdn hk.out
  have ln : (numsL l h s).length ≤ 400 := by rw [nums_len]; omega
  go_enter Try.func55, Try.ntmps55
  go_wp2_with fail
  refine (numbers_any _ _ _ _ _ hk (by omega) (by omega)).mono ?_
  rintro e w1 ⟨v, rfl, ho, hb⟩
  have sz := hb.size
  simp only [World.size_alloc] at sz
  have OW := Lib.hid (owns_base ho.out (show w.heap.size + 1 ≤ _ by simp))
  have W1 := Lib.hid ((below_new w _).trans (hb.mono (show w.heap.size ≤ _ by simp)))
  clear ho hb
  go_wp2_with fail
  refine (sort_any v (numsL l h s) _ w1 OW.out (by omega)).mono ?_
  rintro e w2 ⟨rfl, own, grow⟩
  have W2 := Lib.hid (W1.out.grown grow (by omega) (fun k hk => by have := (OW.out.lt k hk).1; omega))
  clear grow
  go_wp2
  refine bodyPost_ret (v := v) (by simp [results, Try.results55, go_sem, *]) rfl ⟨v, rfl, Lib.hid ?_, W2.out⟩
  have := owns_base own.out (show w.heap.size ≤ w.heap.size + 1 by omega)
  rw [srt_length]; exact this
end Go.Proofs.Ytdifilndpilboaa
