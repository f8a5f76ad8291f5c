/-
  No cell of these rows narrows 'for every input' (looked for: loops, veiled, ifaces, maps, wideKeys, modest, calm, conditions, laid).
  DERIVED. THE GIVEN ROWS OF THIS SEAT. 17 by the template 'for every input the law returns true; each argument reads behind the call as it read before'; 0 by the template 'total and deterministic' (their statements: YtcpeailodgoilaaTotals.lean).
  GIVEN WITH THE SEED: the statements are not yours to turn. If you find one false, say at which input.
  Laid BY PROGRAM, IN A SANDBOX (cutbox-rows.mjs): the forced cells as the released guide's own fill.sh prints them over the translation 3fb1872005c39c17… (all of the seat's roots in one cut). By AI agents, Wed Nov 11 2026. No macro, syntax, notation, axiom, sorry.
-/
import Derived.Test.YtcpeailodgoilaaChecked
import GoSem.Claim
import GoSem.ClaimJoined
import GoSem.ClaimMapViews
import Derived.JoinedTies
import Derived.KernelRfl
namespace Go.Proofs.Ytcpeailodgoilaa
/- THE CELL 'sum', in the pinned program and in every row, IS THE sha256 OF THE DUMP (.gsa) THAT YtcpeailodgoilaaProg.lean LOADS. Nothing in Lean hashes anything: it is a label: what it is worth is what the hold of that sum in a sandbox is worth. -/
noncomputable def Try.pinned : Pinned := { name := "ytcpeailodgoilaa", sum := "3fb1872005c39c17292b5ffd4bb599cd01ffa755e9c9ee229bcf284e4993a653", checked := Try.checked }
namespace Rows
def none {H : Type} : Left H := { results := [], args := [] }

/-- 'raddlelaw01.SpanOf': WHATEVER THE INPUT: true; the input reads as it did. -/
def spanOfSpec : ChangeSpec := { name := "spanOf", fn := fun _ => fun
  | [d1, d2, d3, d4, d5] => { results := [.lit (.bool true)], args := [d1, d2, d3, d4, d5] }
  | _ => none }
def spanOfRow : OpenClaim := { program := "ytcpeailodgoilaa", sum := "3fb1872005c39c17292b5ffd4bb599cd01ffa755e9c9ee229bcf284e4993a653", func := "raddle/raddlelaw01.SpanOf", spec := "spanOf", unfollowed := true, recurses := true, plainKeys := false, apart := false }
def SpanOfSaid : Prop := spanOfRow.holds Try.pinned (OpenSpec.ofChange spanOfSpec)

/-- ITS FALSE NEIGHBOUR: 'it returns false'. Refute it at one input. -/
def spanOfWrong : ChangeSpec := { name := "spanOf", fn := fun _ => fun
  | [d1, d2, d3, d4, d5] => { results := [.lit (.bool false)], args := [d1, d2, d3, d4, d5] }
  | _ => none }
def SpanOfWrongFalsely : Prop := spanOfRow.holds Try.pinned (OpenSpec.ofChange spanOfWrong)

/-- 'raddlelaw01.SpanChanges': WHATEVER THE INPUT: true; the input reads as it did. -/
def spanChangesSpec : ChangeSpec := { name := "spanChanges", fn := fun _ => fun
  | [d1, d2] => { results := [.lit (.bool true)], args := [d1, d2] }
  | _ => none }
def spanChangesRow : OpenClaim := { program := "ytcpeailodgoilaa", sum := "3fb1872005c39c17292b5ffd4bb599cd01ffa755e9c9ee229bcf284e4993a653", func := "raddle/raddlelaw01.SpanChanges", spec := "spanChanges", unfollowed := true, recurses := true, plainKeys := false, apart := false }
def SpanChangesSaid : Prop := spanChangesRow.holds Try.pinned (OpenSpec.ofChange spanChangesSpec)

/-- ITS FALSE NEIGHBOUR: 'it returns false'. Refute it at one input. -/
def spanChangesWrong : ChangeSpec := { name := "spanChanges", fn := fun _ => fun
  | [d1, d2] => { results := [.lit (.bool false)], args := [d1, d2] }
  | _ => none }
def SpanChangesWrongFalsely : Prop := spanChangesRow.holds Try.pinned (OpenSpec.ofChange spanChangesWrong)

/-- 'raddlelaw01.SpanPairs': WHATEVER THE INPUT: true; the input reads as it did. -/
def spanPairsSpec : ChangeSpec := { name := "spanPairs", fn := fun _ => fun
  | [d1, d2] => { results := [.lit (.bool true)], args := [d1, d2] }
  | _ => none }
def spanPairsRow : OpenClaim := { program := "ytcpeailodgoilaa", sum := "3fb1872005c39c17292b5ffd4bb599cd01ffa755e9c9ee229bcf284e4993a653", func := "raddle/raddlelaw01.SpanPairs", spec := "spanPairs", unfollowed := true, recurses := true, plainKeys := false, apart := false }
def SpanPairsSaid : Prop := spanPairsRow.holds Try.pinned (OpenSpec.ofChange spanPairsSpec)

/-- ITS FALSE NEIGHBOUR: 'it returns false'. Refute it at one input. -/
def spanPairsWrong : ChangeSpec := { name := "spanPairs", fn := fun _ => fun
  | [d1, d2] => { results := [.lit (.bool false)], args := [d1, d2] }
  | _ => none }
def SpanPairsWrongFalsely : Prop := spanPairsRow.holds Try.pinned (OpenSpec.ofChange spanPairsWrong)

/-- 'raddlelaw01.SpanOrders': WHATEVER THE INPUT: true; the input reads as it did. -/
def spanOrdersSpec : ChangeSpec := { name := "spanOrders", fn := fun _ => fun
  | [d] => { results := [.lit (.bool true)], args := [d] }
  | _ => none }
def spanOrdersRow : OpenClaim := { program := "ytcpeailodgoilaa", sum := "3fb1872005c39c17292b5ffd4bb599cd01ffa755e9c9ee229bcf284e4993a653", func := "raddle/raddlelaw01.SpanOrders", spec := "spanOrders", unfollowed := true, recurses := true, plainKeys := false, apart := false }
def SpanOrdersSaid : Prop := spanOrdersRow.holds Try.pinned (OpenSpec.ofChange spanOrdersSpec)

/-- ITS FALSE NEIGHBOUR: 'it returns false'. Refute it at one input. -/
def spanOrdersWrong : ChangeSpec := { name := "spanOrders", fn := fun _ => fun
  | [d] => { results := [.lit (.bool false)], args := [d] }
  | _ => none }
def SpanOrdersWrongFalsely : Prop := spanOrdersRow.holds Try.pinned (OpenSpec.ofChange spanOrdersWrong)

/-- 'raddlelaw01.SpanSets': WHATEVER THE INPUT: true; the input reads as it did. -/
def spanSetsSpec : ChangeSpec := { name := "spanSets", fn := fun _ => fun
  | [d1, d2] => { results := [.lit (.bool true)], args := [d1, d2] }
  | _ => none }
def spanSetsRow : OpenClaim := { program := "ytcpeailodgoilaa", sum := "3fb1872005c39c17292b5ffd4bb599cd01ffa755e9c9ee229bcf284e4993a653", func := "raddle/raddlelaw01.SpanSets", spec := "spanSets", unfollowed := true, recurses := true, plainKeys := false, apart := false }
def SpanSetsSaid : Prop := spanSetsRow.holds Try.pinned (OpenSpec.ofChange spanSetsSpec)

/-- ITS FALSE NEIGHBOUR: 'it returns false'. Refute it at one input. -/
def spanSetsWrong : ChangeSpec := { name := "spanSets", fn := fun _ => fun
  | [d1, d2] => { results := [.lit (.bool false)], args := [d1, d2] }
  | _ => none }
def SpanSetsWrongFalsely : Prop := spanSetsRow.holds Try.pinned (OpenSpec.ofChange spanSetsWrong)

/-- 'raddlelaw01.SpanMoves': WHATEVER THE INPUT: true; the input reads as it did. -/
def spanMovesSpec : ChangeSpec := { name := "spanMoves", fn := fun _ => fun
  | [d1, d2] => { results := [.lit (.bool true)], args := [d1, d2] }
  | _ => none }
def spanMovesRow : OpenClaim := { program := "ytcpeailodgoilaa", sum := "3fb1872005c39c17292b5ffd4bb599cd01ffa755e9c9ee229bcf284e4993a653", func := "raddle/raddlelaw01.SpanMoves", spec := "spanMoves", unfollowed := true, recurses := true, plainKeys := false, apart := false }
def SpanMovesSaid : Prop := spanMovesRow.holds Try.pinned (OpenSpec.ofChange spanMovesSpec)

/-- ITS FALSE NEIGHBOUR: 'it returns false'. Refute it at one input. -/
def spanMovesWrong : ChangeSpec := { name := "spanMoves", fn := fun _ => fun
  | [d1, d2] => { results := [.lit (.bool false)], args := [d1, d2] }
  | _ => none }
def SpanMovesWrongFalsely : Prop := spanMovesRow.holds Try.pinned (OpenSpec.ofChange spanMovesWrong)

/-- 'raddlelaw01.SpanAlgebra': WHATEVER THE INPUT: true; the input reads as it did. -/
def spanAlgebraSpec : ChangeSpec := { name := "spanAlgebra", fn := fun _ => fun
  | [d1, d2, d3] => { results := [.lit (.bool true)], args := [d1, d2, d3] }
  | _ => none }
def spanAlgebraRow : OpenClaim := { program := "ytcpeailodgoilaa", sum := "3fb1872005c39c17292b5ffd4bb599cd01ffa755e9c9ee229bcf284e4993a653", func := "raddle/raddlelaw01.SpanAlgebra", spec := "spanAlgebra", unfollowed := true, recurses := true, plainKeys := false, apart := false }
def SpanAlgebraSaid : Prop := spanAlgebraRow.holds Try.pinned (OpenSpec.ofChange spanAlgebraSpec)

/-- ITS FALSE NEIGHBOUR: 'it returns false'. Refute it at one input. -/
def spanAlgebraWrong : ChangeSpec := { name := "spanAlgebra", fn := fun _ => fun
  | [d1, d2, d3] => { results := [.lit (.bool false)], args := [d1, d2, d3] }
  | _ => none }
def SpanAlgebraWrongFalsely : Prop := spanAlgebraRow.holds Try.pinned (OpenSpec.ofChange spanAlgebraWrong)

/-- 'raddlelaw01.SpanByBy': WHATEVER THE INPUT: true; the input reads as it did. -/
def spanByBySpec : ChangeSpec := { name := "spanByBy", fn := fun _ => fun
  | [d1, d2, d3, d4] => { results := [.lit (.bool true)], args := [d1, d2, d3, d4] }
  | _ => none }
def spanByByRow : OpenClaim := { program := "ytcpeailodgoilaa", sum := "3fb1872005c39c17292b5ffd4bb599cd01ffa755e9c9ee229bcf284e4993a653", func := "raddle/raddlelaw01.SpanByBy", spec := "spanByBy", unfollowed := true, recurses := true, plainKeys := false, apart := false }
def SpanByBySaid : Prop := spanByByRow.holds Try.pinned (OpenSpec.ofChange spanByBySpec)

/-- ITS FALSE NEIGHBOUR: 'it returns false'. Refute it at one input. -/
def spanByByWrong : ChangeSpec := { name := "spanByBy", fn := fun _ => fun
  | [d1, d2, d3, d4] => { results := [.lit (.bool false)], args := [d1, d2, d3, d4] }
  | _ => none }
def SpanByByWrongFalsely : Prop := spanByByRow.holds Try.pinned (OpenSpec.ofChange spanByByWrong)

/-- 'raddlelaw02.DomainOf': WHATEVER THE INPUT: true; the input reads as it did. -/
def domainOfSpec : ChangeSpec := { name := "domainOf", fn := fun _ => fun
  | [d1, d2, d3, d4] => { results := [.lit (.bool true)], args := [d1, d2, d3, d4] }
  | _ => none }
def domainOfRow : OpenClaim := { program := "ytcpeailodgoilaa", sum := "3fb1872005c39c17292b5ffd4bb599cd01ffa755e9c9ee229bcf284e4993a653", func := "raddle/raddlelaw02.DomainOf", spec := "domainOf", unfollowed := true, recurses := true, plainKeys := false, apart := false }
def DomainOfSaid : Prop := domainOfRow.holds Try.pinned (OpenSpec.ofChange domainOfSpec)

/-- ITS FALSE NEIGHBOUR: 'it returns false'. Refute it at one input. -/
def domainOfWrong : ChangeSpec := { name := "domainOf", fn := fun _ => fun
  | [d1, d2, d3, d4] => { results := [.lit (.bool false)], args := [d1, d2, d3, d4] }
  | _ => none }
def DomainOfWrongFalsely : Prop := domainOfRow.holds Try.pinned (OpenSpec.ofChange domainOfWrong)

/-- 'raddlelaw02.DomainChanges': WHATEVER THE INPUT: true; the input reads as it did. -/
def domainChangesSpec : ChangeSpec := { name := "domainChanges", fn := fun _ => fun
  | [d1, d2] => { results := [.lit (.bool true)], args := [d1, d2] }
  | _ => none }
def domainChangesRow : OpenClaim := { program := "ytcpeailodgoilaa", sum := "3fb1872005c39c17292b5ffd4bb599cd01ffa755e9c9ee229bcf284e4993a653", func := "raddle/raddlelaw02.DomainChanges", spec := "domainChanges", unfollowed := true, recurses := true, plainKeys := false, apart := false }
def DomainChangesSaid : Prop := domainChangesRow.holds Try.pinned (OpenSpec.ofChange domainChangesSpec)

/-- ITS FALSE NEIGHBOUR: 'it returns false'. Refute it at one input. -/
def domainChangesWrong : ChangeSpec := { name := "domainChanges", fn := fun _ => fun
  | [d1, d2] => { results := [.lit (.bool false)], args := [d1, d2] }
  | _ => none }
def DomainChangesWrongFalsely : Prop := domainChangesRow.holds Try.pinned (OpenSpec.ofChange domainChangesWrong)

/-- 'raddlelaw02.DomainPairs': WHATEVER THE INPUT: true; the input reads as it did. -/
def domainPairsSpec : ChangeSpec := { name := "domainPairs", fn := fun _ => fun
  | [d1, d2] => { results := [.lit (.bool true)], args := [d1, d2] }
  | _ => none }
def domainPairsRow : OpenClaim := { program := "ytcpeailodgoilaa", sum := "3fb1872005c39c17292b5ffd4bb599cd01ffa755e9c9ee229bcf284e4993a653", func := "raddle/raddlelaw02.DomainPairs", spec := "domainPairs", unfollowed := true, recurses := true, plainKeys := false, apart := false }
def DomainPairsSaid : Prop := domainPairsRow.holds Try.pinned (OpenSpec.ofChange domainPairsSpec)

/-- ITS FALSE NEIGHBOUR: 'it returns false'. Refute it at one input. -/
def domainPairsWrong : ChangeSpec := { name := "domainPairs", fn := fun _ => fun
  | [d1, d2] => { results := [.lit (.bool false)], args := [d1, d2] }
  | _ => none }
def DomainPairsWrongFalsely : Prop := domainPairsRow.holds Try.pinned (OpenSpec.ofChange domainPairsWrong)

/-- 'raddlelaw02.DomainOrder': WHATEVER THE INPUT: true; the input reads as it did. -/
def domainOrderSpec : ChangeSpec := { name := "domainOrder", fn := fun _ => fun
  | [d] => { results := [.lit (.bool true)], args := [d] }
  | _ => none }
def domainOrderRow : OpenClaim := { program := "ytcpeailodgoilaa", sum := "3fb1872005c39c17292b5ffd4bb599cd01ffa755e9c9ee229bcf284e4993a653", func := "raddle/raddlelaw02.DomainOrder", spec := "domainOrder", unfollowed := true, recurses := true, plainKeys := false, apart := false }
def DomainOrderSaid : Prop := domainOrderRow.holds Try.pinned (OpenSpec.ofChange domainOrderSpec)

/-- ITS FALSE NEIGHBOUR: 'it returns false'. Refute it at one input. -/
def domainOrderWrong : ChangeSpec := { name := "domainOrder", fn := fun _ => fun
  | [d] => { results := [.lit (.bool false)], args := [d] }
  | _ => none }
def DomainOrderWrongFalsely : Prop := domainOrderRow.holds Try.pinned (OpenSpec.ofChange domainOrderWrong)

/-- 'raddlelaw02.DomainSets': WHATEVER THE INPUT: true; the input reads as it did. -/
def domainSetsSpec : ChangeSpec := { name := "domainSets", fn := fun _ => fun
  | [d1, d2] => { results := [.lit (.bool true)], args := [d1, d2] }
  | _ => none }
def domainSetsRow : OpenClaim := { program := "ytcpeailodgoilaa", sum := "3fb1872005c39c17292b5ffd4bb599cd01ffa755e9c9ee229bcf284e4993a653", func := "raddle/raddlelaw02.DomainSets", spec := "domainSets", unfollowed := true, recurses := true, plainKeys := false, apart := false }
def DomainSetsSaid : Prop := domainSetsRow.holds Try.pinned (OpenSpec.ofChange domainSetsSpec)

/-- ITS FALSE NEIGHBOUR: 'it returns false'. Refute it at one input. -/
def domainSetsWrong : ChangeSpec := { name := "domainSets", fn := fun _ => fun
  | [d1, d2] => { results := [.lit (.bool false)], args := [d1, d2] }
  | _ => none }
def DomainSetsWrongFalsely : Prop := domainSetsRow.holds Try.pinned (OpenSpec.ofChange domainSetsWrong)

/-- 'raddlelaw02.DomainParts': WHATEVER THE INPUT: true; the input reads as it did. -/
def domainPartsSpec : ChangeSpec := { name := "domainParts", fn := fun _ => fun
  | [d1, d2, d3] => { results := [.lit (.bool true)], args := [d1, d2, d3] }
  | _ => none }
def domainPartsRow : OpenClaim := { program := "ytcpeailodgoilaa", sum := "3fb1872005c39c17292b5ffd4bb599cd01ffa755e9c9ee229bcf284e4993a653", func := "raddle/raddlelaw02.DomainParts", spec := "domainParts", unfollowed := true, recurses := true, plainKeys := false, apart := false }
def DomainPartsSaid : Prop := domainPartsRow.holds Try.pinned (OpenSpec.ofChange domainPartsSpec)

/-- ITS FALSE NEIGHBOUR: 'it returns false'. Refute it at one input. -/
def domainPartsWrong : ChangeSpec := { name := "domainParts", fn := fun _ => fun
  | [d1, d2, d3] => { results := [.lit (.bool false)], args := [d1, d2, d3] }
  | _ => none }
def DomainPartsWrongFalsely : Prop := domainPartsRow.holds Try.pinned (OpenSpec.ofChange domainPartsWrong)

/-- 'raddlelaw02.DomainWithin': WHATEVER THE INPUT: true; the input reads as it did. -/
def domainWithinSpec : ChangeSpec := { name := "domainWithin", fn := fun _ => fun
  | [d1, d2, d3] => { results := [.lit (.bool true)], args := [d1, d2, d3] }
  | _ => none }
def domainWithinRow : OpenClaim := { program := "ytcpeailodgoilaa", sum := "3fb1872005c39c17292b5ffd4bb599cd01ffa755e9c9ee229bcf284e4993a653", func := "raddle/raddlelaw02.DomainWithin", spec := "domainWithin", unfollowed := true, recurses := true, plainKeys := false, apart := false }
def DomainWithinSaid : Prop := domainWithinRow.holds Try.pinned (OpenSpec.ofChange domainWithinSpec)

/-- ITS FALSE NEIGHBOUR: 'it returns false'. Refute it at one input. -/
def domainWithinWrong : ChangeSpec := { name := "domainWithin", fn := fun _ => fun
  | [d1, d2, d3] => { results := [.lit (.bool false)], args := [d1, d2, d3] }
  | _ => none }
def DomainWithinWrongFalsely : Prop := domainWithinRow.holds Try.pinned (OpenSpec.ofChange domainWithinWrong)

/-- 'raddlelaw03.IrregularKeys': WHATEVER THE INPUT: true; the input reads as it did. -/
def irregularKeysSpec : ChangeSpec := { name := "irregularKeys", fn := fun _ => fun
  | [d1, d2, d3] => { results := [.lit (.bool true)], args := [d1, d2, d3] }
  | _ => none }
def irregularKeysRow : OpenClaim := { program := "ytcpeailodgoilaa", sum := "3fb1872005c39c17292b5ffd4bb599cd01ffa755e9c9ee229bcf284e4993a653", func := "raddle/raddlelaw03.IrregularKeys", spec := "irregularKeys", unfollowed := true, recurses := true, plainKeys := false, apart := false }
def IrregularKeysSaid : Prop := irregularKeysRow.holds Try.pinned (OpenSpec.ofChange irregularKeysSpec)

/-- ITS FALSE NEIGHBOUR: 'it returns false'. Refute it at one input. -/
def irregularKeysWrong : ChangeSpec := { name := "irregularKeys", fn := fun _ => fun
  | [d1, d2, d3] => { results := [.lit (.bool false)], args := [d1, d2, d3] }
  | _ => none }
def IrregularKeysWrongFalsely : Prop := irregularKeysRow.holds Try.pinned (OpenSpec.ofChange irregularKeysWrong)

/-- 'raddlelaw03.IrregularAlgebra': WHATEVER THE INPUT: true; the input reads as it did. -/
def irregularAlgebraSpec : ChangeSpec := { name := "irregularAlgebra", fn := fun _ => fun
  | [d1, d2, d3] => { results := [.lit (.bool true)], args := [d1, d2, d3] }
  | _ => none }
def irregularAlgebraRow : OpenClaim := { program := "ytcpeailodgoilaa", sum := "3fb1872005c39c17292b5ffd4bb599cd01ffa755e9c9ee229bcf284e4993a653", func := "raddle/raddlelaw03.IrregularAlgebra", spec := "irregularAlgebra", unfollowed := true, recurses := true, plainKeys := false, apart := false }
def IrregularAlgebraSaid : Prop := irregularAlgebraRow.holds Try.pinned (OpenSpec.ofChange irregularAlgebraSpec)

/-- ITS FALSE NEIGHBOUR: 'it returns false'. Refute it at one input. -/
def irregularAlgebraWrong : ChangeSpec := { name := "irregularAlgebra", fn := fun _ => fun
  | [d1, d2, d3] => { results := [.lit (.bool false)], args := [d1, d2, d3] }
  | _ => none }
def IrregularAlgebraWrongFalsely : Prop := irregularAlgebraRow.holds Try.pinned (OpenSpec.ofChange irregularAlgebraWrong)

/- THE SECOND FORM. 'bulk': how many values and letters a reading holds, each counted each time it is reached (what is shared counts as often as it is met; a slice's spare places count too). A statement '..UptoSaid' is the law's where the arguments, and the package variables that the reading takes, are together of bulk at most 1048576: NARROWER than '..Said'. Prove '..Said' where nothing that the law and all that it calls make is longer than what came in: it says more and counts as full. Else prove '..UptoSaid'. A law counts once. -/
mutual
def uptoBulk {H : Type} : DataW H → Nat
  | .lit (.string bytes) => bytes.length + 1
  | .lit _ => 1
  | .nil => 1
  | .ptr d => uptoBulk d + 1
  | .slice elems spare => uptoBulkAll elems + uptoBulkAll spare + 1
  | .agg parts => uptoBulkAll parts + 1
  | .iface _ d => uptoBulk d + 1
  | .map entries => uptoBulkEntries entries + 1
  | .held _ => 1
def uptoBulkAll {H : Type} : List (DataW H) → Nat
  | [] => 0
  | d :: r => uptoBulk d + uptoBulkAll r
def uptoBulkEntries {H : Type} : List (Lit × DataW H) → Nat
  | [] => 0
  | x :: r => uptoBulkEntry x + uptoBulkEntries r
def uptoBulkEntry {H : Type} : Lit × DataW H → Nat
  | (.string bytes, d) => bytes.length + uptoBulk d + 1
  | (_, d) => uptoBulk d + 1
 end
def uptoSmall : (H : Type) → List (DataW H) → Bool := fun _ ds => decide (uptoBulkAll ds ≤ 1048576)
def OpenSpec.upto (s : _root_.Go.ChangeSpec) : _root_.Go.OpenSpec := { _root_.Go.OpenSpec.ofChange s with cond := some uptoSmall }

/-- 'raddlelaw01.SpanOf', WHERE WHAT IT READS IS OF BULK AT MOST 1048576: true; the input reads as it did. -/
def spanOfUptoRow : OpenClaim := { program := "ytcpeailodgoilaa", sum := "3fb1872005c39c17292b5ffd4bb599cd01ffa755e9c9ee229bcf284e4993a653", func := "raddle/raddlelaw01.SpanOf", spec := "spanOf", unfollowed := true, recurses := true, plainKeys := false, apart := false, narrowed := true }
def SpanOfUptoSaid : Prop := spanOfUptoRow.holds Try.pinned (OpenSpec.upto spanOfSpec)

/-- 'raddlelaw01.SpanChanges', WHERE WHAT IT READS IS OF BULK AT MOST 1048576: true; the input reads as it did. -/
def spanChangesUptoRow : OpenClaim := { program := "ytcpeailodgoilaa", sum := "3fb1872005c39c17292b5ffd4bb599cd01ffa755e9c9ee229bcf284e4993a653", func := "raddle/raddlelaw01.SpanChanges", spec := "spanChanges", unfollowed := true, recurses := true, plainKeys := false, apart := false, narrowed := true }
def SpanChangesUptoSaid : Prop := spanChangesUptoRow.holds Try.pinned (OpenSpec.upto spanChangesSpec)

/-- 'raddlelaw01.SpanPairs', WHERE WHAT IT READS IS OF BULK AT MOST 1048576: true; the input reads as it did. -/
def spanPairsUptoRow : OpenClaim := { program := "ytcpeailodgoilaa", sum := "3fb1872005c39c17292b5ffd4bb599cd01ffa755e9c9ee229bcf284e4993a653", func := "raddle/raddlelaw01.SpanPairs", spec := "spanPairs", unfollowed := true, recurses := true, plainKeys := false, apart := false, narrowed := true }
def SpanPairsUptoSaid : Prop := spanPairsUptoRow.holds Try.pinned (OpenSpec.upto spanPairsSpec)

/-- 'raddlelaw01.SpanOrders', WHERE WHAT IT READS IS OF BULK AT MOST 1048576: true; the input reads as it did. -/
def spanOrdersUptoRow : OpenClaim := { program := "ytcpeailodgoilaa", sum := "3fb1872005c39c17292b5ffd4bb599cd01ffa755e9c9ee229bcf284e4993a653", func := "raddle/raddlelaw01.SpanOrders", spec := "spanOrders", unfollowed := true, recurses := true, plainKeys := false, apart := false, narrowed := true }
def SpanOrdersUptoSaid : Prop := spanOrdersUptoRow.holds Try.pinned (OpenSpec.upto spanOrdersSpec)

/-- 'raddlelaw01.SpanSets', WHERE WHAT IT READS IS OF BULK AT MOST 1048576: true; the input reads as it did. -/
def spanSetsUptoRow : OpenClaim := { program := "ytcpeailodgoilaa", sum := "3fb1872005c39c17292b5ffd4bb599cd01ffa755e9c9ee229bcf284e4993a653", func := "raddle/raddlelaw01.SpanSets", spec := "spanSets", unfollowed := true, recurses := true, plainKeys := false, apart := false, narrowed := true }
def SpanSetsUptoSaid : Prop := spanSetsUptoRow.holds Try.pinned (OpenSpec.upto spanSetsSpec)

/-- 'raddlelaw01.SpanMoves', WHERE WHAT IT READS IS OF BULK AT MOST 1048576: true; the input reads as it did. -/
def spanMovesUptoRow : OpenClaim := { program := "ytcpeailodgoilaa", sum := "3fb1872005c39c17292b5ffd4bb599cd01ffa755e9c9ee229bcf284e4993a653", func := "raddle/raddlelaw01.SpanMoves", spec := "spanMoves", unfollowed := true, recurses := true, plainKeys := false, apart := false, narrowed := true }
def SpanMovesUptoSaid : Prop := spanMovesUptoRow.holds Try.pinned (OpenSpec.upto spanMovesSpec)

/-- 'raddlelaw01.SpanAlgebra', WHERE WHAT IT READS IS OF BULK AT MOST 1048576: true; the input reads as it did. -/
def spanAlgebraUptoRow : OpenClaim := { program := "ytcpeailodgoilaa", sum := "3fb1872005c39c17292b5ffd4bb599cd01ffa755e9c9ee229bcf284e4993a653", func := "raddle/raddlelaw01.SpanAlgebra", spec := "spanAlgebra", unfollowed := true, recurses := true, plainKeys := false, apart := false, narrowed := true }
def SpanAlgebraUptoSaid : Prop := spanAlgebraUptoRow.holds Try.pinned (OpenSpec.upto spanAlgebraSpec)

/-- 'raddlelaw01.SpanByBy', WHERE WHAT IT READS IS OF BULK AT MOST 1048576: true; the input reads as it did. -/
def spanByByUptoRow : OpenClaim := { program := "ytcpeailodgoilaa", sum := "3fb1872005c39c17292b5ffd4bb599cd01ffa755e9c9ee229bcf284e4993a653", func := "raddle/raddlelaw01.SpanByBy", spec := "spanByBy", unfollowed := true, recurses := true, plainKeys := false, apart := false, narrowed := true }
def SpanByByUptoSaid : Prop := spanByByUptoRow.holds Try.pinned (OpenSpec.upto spanByBySpec)

/-- 'raddlelaw02.DomainOf', WHERE WHAT IT READS IS OF BULK AT MOST 1048576: true; the input reads as it did. -/
def domainOfUptoRow : OpenClaim := { program := "ytcpeailodgoilaa", sum := "3fb1872005c39c17292b5ffd4bb599cd01ffa755e9c9ee229bcf284e4993a653", func := "raddle/raddlelaw02.DomainOf", spec := "domainOf", unfollowed := true, recurses := true, plainKeys := false, apart := false, narrowed := true }
def DomainOfUptoSaid : Prop := domainOfUptoRow.holds Try.pinned (OpenSpec.upto domainOfSpec)

/-- 'raddlelaw02.DomainChanges', WHERE WHAT IT READS IS OF BULK AT MOST 1048576: true; the input reads as it did. -/
def domainChangesUptoRow : OpenClaim := { program := "ytcpeailodgoilaa", sum := "3fb1872005c39c17292b5ffd4bb599cd01ffa755e9c9ee229bcf284e4993a653", func := "raddle/raddlelaw02.DomainChanges", spec := "domainChanges", unfollowed := true, recurses := true, plainKeys := false, apart := false, narrowed := true }
def DomainChangesUptoSaid : Prop := domainChangesUptoRow.holds Try.pinned (OpenSpec.upto domainChangesSpec)

/-- 'raddlelaw02.DomainPairs', WHERE WHAT IT READS IS OF BULK AT MOST 1048576: true; the input reads as it did. -/
def domainPairsUptoRow : OpenClaim := { program := "ytcpeailodgoilaa", sum := "3fb1872005c39c17292b5ffd4bb599cd01ffa755e9c9ee229bcf284e4993a653", func := "raddle/raddlelaw02.DomainPairs", spec := "domainPairs", unfollowed := true, recurses := true, plainKeys := false, apart := false, narrowed := true }
def DomainPairsUptoSaid : Prop := domainPairsUptoRow.holds Try.pinned (OpenSpec.upto domainPairsSpec)

/-- 'raddlelaw02.DomainOrder', WHERE WHAT IT READS IS OF BULK AT MOST 1048576: true; the input reads as it did. -/
def domainOrderUptoRow : OpenClaim := { program := "ytcpeailodgoilaa", sum := "3fb1872005c39c17292b5ffd4bb599cd01ffa755e9c9ee229bcf284e4993a653", func := "raddle/raddlelaw02.DomainOrder", spec := "domainOrder", unfollowed := true, recurses := true, plainKeys := false, apart := false, narrowed := true }
def DomainOrderUptoSaid : Prop := domainOrderUptoRow.holds Try.pinned (OpenSpec.upto domainOrderSpec)

/-- 'raddlelaw02.DomainSets', WHERE WHAT IT READS IS OF BULK AT MOST 1048576: true; the input reads as it did. -/
def domainSetsUptoRow : OpenClaim := { program := "ytcpeailodgoilaa", sum := "3fb1872005c39c17292b5ffd4bb599cd01ffa755e9c9ee229bcf284e4993a653", func := "raddle/raddlelaw02.DomainSets", spec := "domainSets", unfollowed := true, recurses := true, plainKeys := false, apart := false, narrowed := true }
def DomainSetsUptoSaid : Prop := domainSetsUptoRow.holds Try.pinned (OpenSpec.upto domainSetsSpec)

/-- 'raddlelaw02.DomainParts', WHERE WHAT IT READS IS OF BULK AT MOST 1048576: true; the input reads as it did. -/
def domainPartsUptoRow : OpenClaim := { program := "ytcpeailodgoilaa", sum := "3fb1872005c39c17292b5ffd4bb599cd01ffa755e9c9ee229bcf284e4993a653", func := "raddle/raddlelaw02.DomainParts", spec := "domainParts", unfollowed := true, recurses := true, plainKeys := false, apart := false, narrowed := true }
def DomainPartsUptoSaid : Prop := domainPartsUptoRow.holds Try.pinned (OpenSpec.upto domainPartsSpec)

/-- 'raddlelaw02.DomainWithin', WHERE WHAT IT READS IS OF BULK AT MOST 1048576: true; the input reads as it did. -/
def domainWithinUptoRow : OpenClaim := { program := "ytcpeailodgoilaa", sum := "3fb1872005c39c17292b5ffd4bb599cd01ffa755e9c9ee229bcf284e4993a653", func := "raddle/raddlelaw02.DomainWithin", spec := "domainWithin", unfollowed := true, recurses := true, plainKeys := false, apart := false, narrowed := true }
def DomainWithinUptoSaid : Prop := domainWithinUptoRow.holds Try.pinned (OpenSpec.upto domainWithinSpec)

/-- 'raddlelaw03.IrregularKeys', WHERE WHAT IT READS IS OF BULK AT MOST 1048576: true; the input reads as it did. -/
def irregularKeysUptoRow : OpenClaim := { program := "ytcpeailodgoilaa", sum := "3fb1872005c39c17292b5ffd4bb599cd01ffa755e9c9ee229bcf284e4993a653", func := "raddle/raddlelaw03.IrregularKeys", spec := "irregularKeys", unfollowed := true, recurses := true, plainKeys := false, apart := false, narrowed := true }
def IrregularKeysUptoSaid : Prop := irregularKeysUptoRow.holds Try.pinned (OpenSpec.upto irregularKeysSpec)

/-- 'raddlelaw03.IrregularAlgebra', WHERE WHAT IT READS IS OF BULK AT MOST 1048576: true; the input reads as it did. -/
def irregularAlgebraUptoRow : OpenClaim := { program := "ytcpeailodgoilaa", sum := "3fb1872005c39c17292b5ffd4bb599cd01ffa755e9c9ee229bcf284e4993a653", func := "raddle/raddlelaw03.IrregularAlgebra", spec := "irregularAlgebra", unfollowed := true, recurses := true, plainKeys := false, apart := false, narrowed := true }
def IrregularAlgebraUptoSaid : Prop := irregularAlgebraUptoRow.holds Try.pinned (OpenSpec.upto irregularAlgebraSpec)

end Rows
end Go.Proofs.Ytcpeailodgoilaa
