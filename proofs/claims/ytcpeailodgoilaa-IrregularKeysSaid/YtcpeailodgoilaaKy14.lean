/-
  Part 14: IFacKy.
-/
import Derived.Lib.SmallJoins
import Derived.ProofKit
import Derived.Test.YtcpeailodgoilaaRows
import Derived.WalkKit
namespace Go.Proofs.Ytcpeailodgoilaa
open Go.ChangeShapes Go.WideShapes Go.ChangeAt Go.RowKit Go.Joins
set_option maxHeartbeats 6400000 in
theorem irregularKeys_facts : joinedFacts Try.pinned.checked.prog 18 Try.f18 Rows.irregularKeysSpec Rows.irregularKeysRow = true := by
  unfold joinedFacts
  repeat' (with_reducible refine Bool.and_eq_true_iff.2 ⟨?_, ?_⟩)
  all_goals (as_aux_lemma => kernel_rfl)
end Go.Proofs.Ytcpeailodgoilaa
