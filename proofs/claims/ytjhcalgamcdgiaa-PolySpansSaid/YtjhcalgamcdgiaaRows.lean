/-
  No cell of these rows narrows 'for every input' (looked for: loops, veiled, ifaces, maps, wideKeys, modest, calm, conditions, laid).
  DERIVED. THE GIVEN ROWS OF THIS SEAT. 5 by the template 'for every input the law returns true; each argument reads behind the call as it read before'; 0 by the template 'total and deterministic' (their statements: YtjhcalgamcdgiaaTotals.lean).
  GIVEN WITH THE SEED: the statements are not yours to turn. If you find one false, say at which input.
  Laid BY PROGRAM, IN A SANDBOX (cutbox-rows.mjs): the forced cells as the released guide's own fill.sh prints them over the translation 382f5fb0130775d4… (all of the seat's roots in one cut). By AI agents, Wed Nov 11 2026. No macro, syntax, notation, axiom, sorry.
-/
import Derived.Test.YtjhcalgamcdgiaaChecked
import GoSem.Claim
import GoSem.ClaimJoined
import GoSem.ClaimMapViews
import Derived.JoinedTies
import Derived.KernelRfl
namespace Go.Proofs.Ytjhcalgamcdgiaa
/- THE CELL 'sum', in the pinned program and in every row, IS THE sha256 OF THE DUMP (.gsa) THAT YtjhcalgamcdgiaaProg.lean LOADS. Nothing in Lean hashes anything: it is a label: what it is worth is what the hold of that sum in a sandbox is worth. -/
noncomputable def Try.pinned : Pinned := { name := "ytjhcalgamcdgiaa", sum := "382f5fb0130775d497b51653de0d8d261a09337298b0bad2bad57997d9d91e98", checked := Try.checked }
namespace Rows
def none {H : Type} : Left H := { results := [], args := [] }

/-- 'orrerylaw06.PolySpans': WHATEVER THE INPUT: true; the input reads as it did. -/
def polySpansSpec : ChangeSpec := { name := "polySpans", fn := fun _ => fun
  | [d1, d2] => { results := [.lit (.bool true)], args := [d1, d2] }
  | _ => none }
def polySpansRow : OpenClaim := { program := "ytjhcalgamcdgiaa", sum := "382f5fb0130775d497b51653de0d8d261a09337298b0bad2bad57997d9d91e98", func := "orrery/orrerylaw06.PolySpans", spec := "polySpans", inPlace := ["math.Float64bits", "math.Float64frombits"], unfollowed := true, recurses := true, apart := false }
def PolySpansSaid : Prop := polySpansRow.holds Try.pinned (OpenSpec.ofChange polySpansSpec)

/-- ITS FALSE NEIGHBOUR: 'it returns false'. Refute it at one input. -/
def polySpansWrong : ChangeSpec := { name := "polySpans", fn := fun _ => fun
  | [d1, d2] => { results := [.lit (.bool false)], args := [d1, d2] }
  | _ => none }
def PolySpansWrongFalsely : Prop := polySpansRow.holds Try.pinned (OpenSpec.ofChange polySpansWrong)

/-- 'orrerylaw06.PolySmaller': WHATEVER THE INPUT: true; the input reads as it did. -/
def polySmallerSpec : ChangeSpec := { name := "polySmaller", fn := fun _ => fun
  | [d1, d2, d3] => { results := [.lit (.bool true)], args := [d1, d2, d3] }
  | _ => none }
def polySmallerRow : OpenClaim := { program := "ytjhcalgamcdgiaa", sum := "382f5fb0130775d497b51653de0d8d261a09337298b0bad2bad57997d9d91e98", func := "orrery/orrerylaw06.PolySmaller", spec := "polySmaller", inPlace := ["math.Float64bits", "math.Float64frombits"], unfollowed := true, recurses := true, apart := false }
def PolySmallerSaid : Prop := polySmallerRow.holds Try.pinned (OpenSpec.ofChange polySmallerSpec)

/-- ITS FALSE NEIGHBOUR: 'it returns false'. Refute it at one input. -/
def polySmallerWrong : ChangeSpec := { name := "polySmaller", fn := fun _ => fun
  | [d1, d2, d3] => { results := [.lit (.bool false)], args := [d1, d2, d3] }
  | _ => none }
def PolySmallerWrongFalsely : Prop := polySmallerRow.holds Try.pinned (OpenSpec.ofChange polySmallerWrong)

/-- 'orrerylaw06.PolyHolds': WHATEVER THE INPUT: true; the input reads as it did. -/
def polyHoldsSpec : ChangeSpec := { name := "polyHolds", fn := fun _ => fun
  | [d1, d2] => { results := [.lit (.bool true)], args := [d1, d2] }
  | _ => none }
def polyHoldsRow : OpenClaim := { program := "ytjhcalgamcdgiaa", sum := "382f5fb0130775d497b51653de0d8d261a09337298b0bad2bad57997d9d91e98", func := "orrery/orrerylaw06.PolyHolds", spec := "polyHolds", inPlace := ["math.Float64bits", "math.Float64frombits"], unfollowed := true, recurses := true, apart := false }
def PolyHoldsSaid : Prop := polyHoldsRow.holds Try.pinned (OpenSpec.ofChange polyHoldsSpec)

/-- ITS FALSE NEIGHBOUR: 'it returns false'. Refute it at one input. -/
def polyHoldsWrong : ChangeSpec := { name := "polyHolds", fn := fun _ => fun
  | [d1, d2] => { results := [.lit (.bool false)], args := [d1, d2] }
  | _ => none }
def PolyHoldsWrongFalsely : Prop := polyHoldsRow.holds Try.pinned (OpenSpec.ofChange polyHoldsWrong)

/-- 'orrerylaw06.PolyMirrors': WHATEVER THE INPUT: true; the input reads as it did. -/
def polyMirrorsSpec : ChangeSpec := { name := "polyMirrors", fn := fun _ => fun
  | [d1, d2] => { results := [.lit (.bool true)], args := [d1, d2] }
  | _ => none }
def polyMirrorsRow : OpenClaim := { program := "ytjhcalgamcdgiaa", sum := "382f5fb0130775d497b51653de0d8d261a09337298b0bad2bad57997d9d91e98", func := "orrery/orrerylaw06.PolyMirrors", spec := "polyMirrors", inPlace := ["math.Float64bits", "math.Float64frombits"], apart := false }
def PolyMirrorsSaid : Prop := polyMirrorsRow.holds Try.pinned (OpenSpec.ofChange polyMirrorsSpec)

/-- ITS FALSE NEIGHBOUR: 'it returns false'. Refute it at one input. -/
def polyMirrorsWrong : ChangeSpec := { name := "polyMirrors", fn := fun _ => fun
  | [d1, d2] => { results := [.lit (.bool false)], args := [d1, d2] }
  | _ => none }
def PolyMirrorsWrongFalsely : Prop := polyMirrorsRow.holds Try.pinned (OpenSpec.ofChange polyMirrorsWrong)

/-- 'orrerylaw06.PolyScales': WHATEVER THE INPUT: true; the input reads as it did. -/
def polyScalesSpec : ChangeSpec := { name := "polyScales", fn := fun _ => fun
  | [d1, d2, d3] => { results := [.lit (.bool true)], args := [d1, d2, d3] }
  | _ => none }
def polyScalesRow : OpenClaim := { program := "ytjhcalgamcdgiaa", sum := "382f5fb0130775d497b51653de0d8d261a09337298b0bad2bad57997d9d91e98", func := "orrery/orrerylaw06.PolyScales", spec := "polyScales", inPlace := ["math.Float64bits", "math.Float64frombits"], apart := false }
def PolyScalesSaid : Prop := polyScalesRow.holds Try.pinned (OpenSpec.ofChange polyScalesSpec)

/-- ITS FALSE NEIGHBOUR: 'it returns false'. Refute it at one input. -/
def polyScalesWrong : ChangeSpec := { name := "polyScales", fn := fun _ => fun
  | [d1, d2, d3] => { results := [.lit (.bool false)], args := [d1, d2, d3] }
  | _ => none }
def PolyScalesWrongFalsely : Prop := polyScalesRow.holds Try.pinned (OpenSpec.ofChange polyScalesWrong)

/- THE SECOND FORM. 'bulk': how many values and letters a reading holds, each counted each time it is reached (what is shared counts as often as it is met; a slice's spare places count too). A statement '..UptoSaid' is the law's where the arguments, and the package variables that the reading takes, are together of bulk at most 1048576: NARROWER than '..Said'. Prove '..Said' where nothing that the law and all that it calls make is longer than what came in: it says more and counts as full. Else prove '..UptoSaid'. A law counts once. -/
mutual
def uptoBulk {H : Type} : DataW H → Nat
  | .lit (.string bytes) => bytes.length + 1
  | .lit _ => 1
  | .nil => 1
  | .ptr d => uptoBulk d + 1
  | .slice elems spare => uptoBulkAll elems + uptoBulkAll spare + 1
  | .agg parts => uptoBulkAll parts + 1
  | .iface _ d => uptoBulk d + 1
  | .map entries => uptoBulkEntries entries + 1
  | .held _ => 1
def uptoBulkAll {H : Type} : List (DataW H) → Nat
  | [] => 0
  | d :: r => uptoBulk d + uptoBulkAll r
def uptoBulkEntries {H : Type} : List (Lit × DataW H) → Nat
  | [] => 0
  | x :: r => uptoBulkEntry x + uptoBulkEntries r
def uptoBulkEntry {H : Type} : Lit × DataW H → Nat
  | (.string bytes, d) => bytes.length + uptoBulk d + 1
  | (_, d) => uptoBulk d + 1
 end
def uptoSmall : (H : Type) → List (DataW H) → Bool := fun _ ds => decide (uptoBulkAll ds ≤ 1048576)
def OpenSpec.upto (s : _root_.Go.ChangeSpec) : _root_.Go.OpenSpec := { _root_.Go.OpenSpec.ofChange s with cond := some uptoSmall }

/-- 'orrerylaw06.PolySpans', WHERE WHAT IT READS IS OF BULK AT MOST 1048576: true; the input reads as it did. -/
def polySpansUptoRow : OpenClaim := { program := "ytjhcalgamcdgiaa", sum := "382f5fb0130775d497b51653de0d8d261a09337298b0bad2bad57997d9d91e98", func := "orrery/orrerylaw06.PolySpans", spec := "polySpans", inPlace := ["math.Float64bits", "math.Float64frombits"], unfollowed := true, recurses := true, apart := false, narrowed := true }
def PolySpansUptoSaid : Prop := polySpansUptoRow.holds Try.pinned (OpenSpec.upto polySpansSpec)

/-- 'orrerylaw06.PolySmaller', WHERE WHAT IT READS IS OF BULK AT MOST 1048576: true; the input reads as it did. -/
def polySmallerUptoRow : OpenClaim := { program := "ytjhcalgamcdgiaa", sum := "382f5fb0130775d497b51653de0d8d261a09337298b0bad2bad57997d9d91e98", func := "orrery/orrerylaw06.PolySmaller", spec := "polySmaller", inPlace := ["math.Float64bits", "math.Float64frombits"], unfollowed := true, recurses := true, apart := false, narrowed := true }
def PolySmallerUptoSaid : Prop := polySmallerUptoRow.holds Try.pinned (OpenSpec.upto polySmallerSpec)

/-- 'orrerylaw06.PolyHolds', WHERE WHAT IT READS IS OF BULK AT MOST 1048576: true; the input reads as it did. -/
def polyHoldsUptoRow : OpenClaim := { program := "ytjhcalgamcdgiaa", sum := "382f5fb0130775d497b51653de0d8d261a09337298b0bad2bad57997d9d91e98", func := "orrery/orrerylaw06.PolyHolds", spec := "polyHolds", inPlace := ["math.Float64bits", "math.Float64frombits"], unfollowed := true, recurses := true, apart := false, narrowed := true }
def PolyHoldsUptoSaid : Prop := polyHoldsUptoRow.holds Try.pinned (OpenSpec.upto polyHoldsSpec)

/-- 'orrerylaw06.PolyMirrors', WHERE WHAT IT READS IS OF BULK AT MOST 1048576: true; the input reads as it did. -/
def polyMirrorsUptoRow : OpenClaim := { program := "ytjhcalgamcdgiaa", sum := "382f5fb0130775d497b51653de0d8d261a09337298b0bad2bad57997d9d91e98", func := "orrery/orrerylaw06.PolyMirrors", spec := "polyMirrors", inPlace := ["math.Float64bits", "math.Float64frombits"], apart := false, narrowed := true }
def PolyMirrorsUptoSaid : Prop := polyMirrorsUptoRow.holds Try.pinned (OpenSpec.upto polyMirrorsSpec)

/-- 'orrerylaw06.PolyScales', WHERE WHAT IT READS IS OF BULK AT MOST 1048576: true; the input reads as it did. -/
def polyScalesUptoRow : OpenClaim := { program := "ytjhcalgamcdgiaa", sum := "382f5fb0130775d497b51653de0d8d261a09337298b0bad2bad57997d9d91e98", func := "orrery/orrerylaw06.PolyScales", spec := "polyScales", inPlace := ["math.Float64bits", "math.Float64frombits"], apart := false, narrowed := true }
def PolyScalesUptoSaid : Prop := polyScalesUptoRow.holds Try.pinned (OpenSpec.upto polyScalesSpec)

end Rows
end Go.Proofs.Ytjhcalgamcdgiaa
