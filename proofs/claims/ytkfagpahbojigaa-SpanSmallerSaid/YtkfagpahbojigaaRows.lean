/-
  No cell of these rows narrows 'for every input' (looked for: loops, veiled, ifaces, maps, wideKeys, modest, calm, conditions, laid).
  DERIVED. THE GIVEN ROWS OF THIS SEAT. 8 by the template 'for every input the law returns true; each argument reads behind the call as it read before'; 0 by the template 'total and deterministic' (their statements: YtkfagpahbojigaaTotals.lean).
  GIVEN WITH THE SEED: the statements are not yours to turn. If you find one false, say at which input.
  Laid BY PROGRAM, IN A SANDBOX (cutbox-rows.mjs): the forced cells as the released guide's own fill.sh prints them over the translation 6ebf8ee6eb05618a… (all of the seat's roots in one cut). By AI agents, Wed Nov 11 2026. No macro, syntax, notation, axiom, sorry.
-/
import Derived.Test.YtkfagpahbojigaaChecked
import GoSem.Claim
import GoSem.ClaimJoined
import GoSem.ClaimMapViews
import Derived.JoinedTies
import Derived.KernelRfl
namespace Go.Proofs.Ytkfagpahbojigaa
/- THE CELL 'sum', in the pinned program and in every row, IS THE sha256 OF THE DUMP (.gsa) THAT YtkfagpahbojigaaProg.lean LOADS. Nothing in Lean hashes anything: it is a label: what it is worth is what the hold of that sum in a sandbox is worth. -/
noncomputable def Try.pinned : Pinned := { name := "ytkfagpahbojigaa", sum := "6ebf8ee6eb05618aad4f60e08e741d90f122133a960b404de0779ecdf169efdf", checked := Try.checked }
namespace Rows
def none {H : Type} : Left H := { results := [], args := [] }

/-- 'orrerylaw04.SpanTells': WHATEVER THE INPUT: true; the input reads as it did. -/
def spanTellsSpec : ChangeSpec := { name := "spanTells", fn := fun _ => fun
  | [d1, d2] => { results := [.lit (.bool true)], args := [d1, d2] }
  | _ => none }
def spanTellsRow : OpenClaim := { program := "ytkfagpahbojigaa", sum := "6ebf8ee6eb05618aad4f60e08e741d90f122133a960b404de0779ecdf169efdf", func := "orrery/orrerylaw04.SpanTells", spec := "spanTells", inPlace := ["math.Float64bits", "math.Float64frombits", "math.sqrt"], unfollowed := true, recurses := true, apart := false }
def SpanTellsSaid : Prop := spanTellsRow.holds Try.pinned (OpenSpec.ofChange spanTellsSpec)

/-- ITS FALSE NEIGHBOUR: 'it returns false'. Refute it at one input. -/
def spanTellsWrong : ChangeSpec := { name := "spanTells", fn := fun _ => fun
  | [d1, d2] => { results := [.lit (.bool false)], args := [d1, d2] }
  | _ => none }
def SpanTellsWrongFalsely : Prop := spanTellsRow.holds Try.pinned (OpenSpec.ofChange spanTellsWrong)

/-- 'orrerylaw04.SpanSums': WHATEVER THE INPUT: true; the input reads as it did. -/
def spanSumsSpec : ChangeSpec := { name := "spanSums", fn := fun _ => fun
  | [d1, d2, d3, d4, d5, d6] => { results := [.lit (.bool true)], args := [d1, d2, d3, d4, d5, d6] }
  | _ => none }
def spanSumsRow : OpenClaim := { program := "ytkfagpahbojigaa", sum := "6ebf8ee6eb05618aad4f60e08e741d90f122133a960b404de0779ecdf169efdf", func := "orrery/orrerylaw04.SpanSums", spec := "spanSums", inPlace := ["math.Float64bits", "math.Float64frombits", "math/bits.Sub64", "math/bits.Add64"], apart := false }
def SpanSumsSaid : Prop := spanSumsRow.holds Try.pinned (OpenSpec.ofChange spanSumsSpec)

/-- ITS FALSE NEIGHBOUR: 'it returns false'. Refute it at one input. -/
def spanSumsWrong : ChangeSpec := { name := "spanSums", fn := fun _ => fun
  | [d1, d2, d3, d4, d5, d6] => { results := [.lit (.bool false)], args := [d1, d2, d3, d4, d5, d6] }
  | _ => none }
def SpanSumsWrongFalsely : Prop := spanSumsRow.holds Try.pinned (OpenSpec.ofChange spanSumsWrong)

/-- 'orrerylaw04.SpanProds': WHATEVER THE INPUT: true; the input reads as it did. -/
def spanProdsSpec : ChangeSpec := { name := "spanProds", fn := fun _ => fun
  | [d1, d2, d3, d4, d5, d6] => { results := [.lit (.bool true)], args := [d1, d2, d3, d4, d5, d6] }
  | _ => none }
def spanProdsRow : OpenClaim := { program := "ytkfagpahbojigaa", sum := "6ebf8ee6eb05618aad4f60e08e741d90f122133a960b404de0779ecdf169efdf", func := "orrery/orrerylaw04.SpanProds", spec := "spanProds", inPlace := ["math.Float64bits", "math.Float64frombits", "math/bits.Sub64", "math/bits.Add64"], unfollowed := true, recurses := true, apart := false }
def SpanProdsSaid : Prop := spanProdsRow.holds Try.pinned (OpenSpec.ofChange spanProdsSpec)

/-- ITS FALSE NEIGHBOUR: 'it returns false'. Refute it at one input. -/
def spanProdsWrong : ChangeSpec := { name := "spanProds", fn := fun _ => fun
  | [d1, d2, d3, d4, d5, d6] => { results := [.lit (.bool false)], args := [d1, d2, d3, d4, d5, d6] }
  | _ => none }
def SpanProdsWrongFalsely : Prop := spanProdsRow.holds Try.pinned (OpenSpec.ofChange spanProdsWrong)

/-- 'orrerylaw04.SpanQuots': WHATEVER THE INPUT: true; the input reads as it did. -/
def spanQuotsSpec : ChangeSpec := { name := "spanQuots", fn := fun _ => fun
  | [d1, d2, d3, d4, d5, d6] => { results := [.lit (.bool true)], args := [d1, d2, d3, d4, d5, d6] }
  | _ => none }
def spanQuotsRow : OpenClaim := { program := "ytkfagpahbojigaa", sum := "6ebf8ee6eb05618aad4f60e08e741d90f122133a960b404de0779ecdf169efdf", func := "orrery/orrerylaw04.SpanQuots", spec := "spanQuots", inPlace := ["math.Float64bits", "math.Float64frombits", "math/bits.Sub64", "math/bits.Add64", "math.sqrt"], unfollowed := true, recurses := true, apart := false }
def SpanQuotsSaid : Prop := spanQuotsRow.holds Try.pinned (OpenSpec.ofChange spanQuotsSpec)

/-- ITS FALSE NEIGHBOUR: 'it returns false'. Refute it at one input. -/
def spanQuotsWrong : ChangeSpec := { name := "spanQuots", fn := fun _ => fun
  | [d1, d2, d3, d4, d5, d6] => { results := [.lit (.bool false)], args := [d1, d2, d3, d4, d5, d6] }
  | _ => none }
def SpanQuotsWrongFalsely : Prop := spanQuotsRow.holds Try.pinned (OpenSpec.ofChange spanQuotsWrong)

/-- 'orrerylaw04.SpanTight': WHATEVER THE INPUT: true; the input reads as it did. -/
def spanTightSpec : ChangeSpec := { name := "spanTight", fn := fun _ => fun
  | [d1, d2] => { results := [.lit (.bool true)], args := [d1, d2] }
  | _ => none }
def spanTightRow : OpenClaim := { program := "ytkfagpahbojigaa", sum := "6ebf8ee6eb05618aad4f60e08e741d90f122133a960b404de0779ecdf169efdf", func := "orrery/orrerylaw04.SpanTight", spec := "spanTight", inPlace := ["math.Float64bits", "math.Float64frombits", "math.sqrt"], unfollowed := true, recurses := true, apart := false }
def SpanTightSaid : Prop := spanTightRow.holds Try.pinned (OpenSpec.ofChange spanTightSpec)

/-- ITS FALSE NEIGHBOUR: 'it returns false'. Refute it at one input. -/
def spanTightWrong : ChangeSpec := { name := "spanTight", fn := fun _ => fun
  | [d1, d2] => { results := [.lit (.bool false)], args := [d1, d2] }
  | _ => none }
def SpanTightWrongFalsely : Prop := spanTightRow.holds Try.pinned (OpenSpec.ofChange spanTightWrong)

/-- 'orrerylaw04.SpanSmaller': WHATEVER THE INPUT: true; the input reads as it did. -/
def spanSmallerSpec : ChangeSpec := { name := "spanSmaller", fn := fun _ => fun
  | [d1, d2, d3, d4] => { results := [.lit (.bool true)], args := [d1, d2, d3, d4] }
  | _ => none }
def spanSmallerRow : OpenClaim := { program := "ytkfagpahbojigaa", sum := "6ebf8ee6eb05618aad4f60e08e741d90f122133a960b404de0779ecdf169efdf", func := "orrery/orrerylaw04.SpanSmaller", spec := "spanSmaller", inPlace := ["math.Float64bits", "math.Float64frombits", "math.sqrt"], unfollowed := true, recurses := true, apart := false }
def SpanSmallerSaid : Prop := spanSmallerRow.holds Try.pinned (OpenSpec.ofChange spanSmallerSpec)

/-- ITS FALSE NEIGHBOUR: 'it returns false'. Refute it at one input. -/
def spanSmallerWrong : ChangeSpec := { name := "spanSmaller", fn := fun _ => fun
  | [d1, d2, d3, d4] => { results := [.lit (.bool false)], args := [d1, d2, d3, d4] }
  | _ => none }
def SpanSmallerWrongFalsely : Prop := spanSmallerRow.holds Try.pinned (OpenSpec.ofChange spanSmallerWrong)

/-- 'orrerylaw04.SpanSets': WHATEVER THE INPUT: true; the input reads as it did. -/
def spanSetsSpec : ChangeSpec := { name := "spanSets", fn := fun _ => fun
  | [d1, d2, d3] => { results := [.lit (.bool true)], args := [d1, d2, d3] }
  | _ => none }
def spanSetsRow : OpenClaim := { program := "ytkfagpahbojigaa", sum := "6ebf8ee6eb05618aad4f60e08e741d90f122133a960b404de0779ecdf169efdf", func := "orrery/orrerylaw04.SpanSets", spec := "spanSets", inPlace := ["math.Float64bits", "math.Float64frombits"], apart := false }
def SpanSetsSaid : Prop := spanSetsRow.holds Try.pinned (OpenSpec.ofChange spanSetsSpec)

/-- ITS FALSE NEIGHBOUR: 'it returns false'. Refute it at one input. -/
def spanSetsWrong : ChangeSpec := { name := "spanSets", fn := fun _ => fun
  | [d1, d2, d3] => { results := [.lit (.bool false)], args := [d1, d2, d3] }
  | _ => none }
def SpanSetsWrongFalsely : Prop := spanSetsRow.holds Try.pinned (OpenSpec.ofChange spanSetsWrong)

/-- 'orrerylaw04.SpanMiddle': WHATEVER THE INPUT: true; the input reads as it did. -/
def spanMiddleSpec : ChangeSpec := { name := "spanMiddle", fn := fun _ => fun
  | [d] => { results := [.lit (.bool true)], args := [d] }
  | _ => none }
def spanMiddleRow : OpenClaim := { program := "ytkfagpahbojigaa", sum := "6ebf8ee6eb05618aad4f60e08e741d90f122133a960b404de0779ecdf169efdf", func := "orrery/orrerylaw04.SpanMiddle", spec := "spanMiddle", inPlace := ["math.Float64bits", "math.Float64frombits"], apart := false }
def SpanMiddleSaid : Prop := spanMiddleRow.holds Try.pinned (OpenSpec.ofChange spanMiddleSpec)

/-- ITS FALSE NEIGHBOUR: 'it returns false'. Refute it at one input. -/
def spanMiddleWrong : ChangeSpec := { name := "spanMiddle", fn := fun _ => fun
  | [d] => { results := [.lit (.bool false)], args := [d] }
  | _ => none }
def SpanMiddleWrongFalsely : Prop := spanMiddleRow.holds Try.pinned (OpenSpec.ofChange spanMiddleWrong)

/- THE SECOND FORM. 'bulk': how many values and letters a reading holds, each counted each time it is reached (what is shared counts as often as it is met; a slice's spare places count too). A statement '..UptoSaid' is the law's where the arguments, and the package variables that the reading takes, are together of bulk at most 1048576: NARROWER than '..Said'. Prove '..Said' where nothing that the law and all that it calls make is longer than what came in: it says more and counts as full. Else prove '..UptoSaid'. A law counts once. -/
mutual
def uptoBulk {H : Type} : DataW H → Nat
  | .lit (.string bytes) => bytes.length + 1
  | .lit _ => 1
  | .nil => 1
  | .ptr d => uptoBulk d + 1
  | .slice elems spare => uptoBulkAll elems + uptoBulkAll spare + 1
  | .agg parts => uptoBulkAll parts + 1
  | .iface _ d => uptoBulk d + 1
  | .map entries => uptoBulkEntries entries + 1
  | .held _ => 1
def uptoBulkAll {H : Type} : List (DataW H) → Nat
  | [] => 0
  | d :: r => uptoBulk d + uptoBulkAll r
def uptoBulkEntries {H : Type} : List (Lit × DataW H) → Nat
  | [] => 0
  | x :: r => uptoBulkEntry x + uptoBulkEntries r
def uptoBulkEntry {H : Type} : Lit × DataW H → Nat
  | (.string bytes, d) => bytes.length + uptoBulk d + 1
  | (_, d) => uptoBulk d + 1
 end
def uptoSmall : (H : Type) → List (DataW H) → Bool := fun _ ds => decide (uptoBulkAll ds ≤ 1048576)
def OpenSpec.upto (s : _root_.Go.ChangeSpec) : _root_.Go.OpenSpec := { _root_.Go.OpenSpec.ofChange s with cond := some uptoSmall }

/-- 'orrerylaw04.SpanTells', WHERE WHAT IT READS IS OF BULK AT MOST 1048576: true; the input reads as it did. -/
def spanTellsUptoRow : OpenClaim := { program := "ytkfagpahbojigaa", sum := "6ebf8ee6eb05618aad4f60e08e741d90f122133a960b404de0779ecdf169efdf", func := "orrery/orrerylaw04.SpanTells", spec := "spanTells", inPlace := ["math.Float64bits", "math.Float64frombits", "math.sqrt"], unfollowed := true, recurses := true, apart := false, narrowed := true }
def SpanTellsUptoSaid : Prop := spanTellsUptoRow.holds Try.pinned (OpenSpec.upto spanTellsSpec)

/-- 'orrerylaw04.SpanSums', WHERE WHAT IT READS IS OF BULK AT MOST 1048576: true; the input reads as it did. -/
def spanSumsUptoRow : OpenClaim := { program := "ytkfagpahbojigaa", sum := "6ebf8ee6eb05618aad4f60e08e741d90f122133a960b404de0779ecdf169efdf", func := "orrery/orrerylaw04.SpanSums", spec := "spanSums", inPlace := ["math.Float64bits", "math.Float64frombits", "math/bits.Sub64", "math/bits.Add64"], apart := false, narrowed := true }
def SpanSumsUptoSaid : Prop := spanSumsUptoRow.holds Try.pinned (OpenSpec.upto spanSumsSpec)

/-- 'orrerylaw04.SpanProds', WHERE WHAT IT READS IS OF BULK AT MOST 1048576: true; the input reads as it did. -/
def spanProdsUptoRow : OpenClaim := { program := "ytkfagpahbojigaa", sum := "6ebf8ee6eb05618aad4f60e08e741d90f122133a960b404de0779ecdf169efdf", func := "orrery/orrerylaw04.SpanProds", spec := "spanProds", inPlace := ["math.Float64bits", "math.Float64frombits", "math/bits.Sub64", "math/bits.Add64"], unfollowed := true, recurses := true, apart := false, narrowed := true }
def SpanProdsUptoSaid : Prop := spanProdsUptoRow.holds Try.pinned (OpenSpec.upto spanProdsSpec)

/-- 'orrerylaw04.SpanQuots', WHERE WHAT IT READS IS OF BULK AT MOST 1048576: true; the input reads as it did. -/
def spanQuotsUptoRow : OpenClaim := { program := "ytkfagpahbojigaa", sum := "6ebf8ee6eb05618aad4f60e08e741d90f122133a960b404de0779ecdf169efdf", func := "orrery/orrerylaw04.SpanQuots", spec := "spanQuots", inPlace := ["math.Float64bits", "math.Float64frombits", "math/bits.Sub64", "math/bits.Add64", "math.sqrt"], unfollowed := true, recurses := true, apart := false, narrowed := true }
def SpanQuotsUptoSaid : Prop := spanQuotsUptoRow.holds Try.pinned (OpenSpec.upto spanQuotsSpec)

/-- 'orrerylaw04.SpanTight', WHERE WHAT IT READS IS OF BULK AT MOST 1048576: true; the input reads as it did. -/
def spanTightUptoRow : OpenClaim := { program := "ytkfagpahbojigaa", sum := "6ebf8ee6eb05618aad4f60e08e741d90f122133a960b404de0779ecdf169efdf", func := "orrery/orrerylaw04.SpanTight", spec := "spanTight", inPlace := ["math.Float64bits", "math.Float64frombits", "math.sqrt"], unfollowed := true, recurses := true, apart := false, narrowed := true }
def SpanTightUptoSaid : Prop := spanTightUptoRow.holds Try.pinned (OpenSpec.upto spanTightSpec)

/-- 'orrerylaw04.SpanSmaller', WHERE WHAT IT READS IS OF BULK AT MOST 1048576: true; the input reads as it did. -/
def spanSmallerUptoRow : OpenClaim := { program := "ytkfagpahbojigaa", sum := "6ebf8ee6eb05618aad4f60e08e741d90f122133a960b404de0779ecdf169efdf", func := "orrery/orrerylaw04.SpanSmaller", spec := "spanSmaller", inPlace := ["math.Float64bits", "math.Float64frombits", "math.sqrt"], unfollowed := true, recurses := true, apart := false, narrowed := true }
def SpanSmallerUptoSaid : Prop := spanSmallerUptoRow.holds Try.pinned (OpenSpec.upto spanSmallerSpec)

/-- 'orrerylaw04.SpanSets', WHERE WHAT IT READS IS OF BULK AT MOST 1048576: true; the input reads as it did. -/
def spanSetsUptoRow : OpenClaim := { program := "ytkfagpahbojigaa", sum := "6ebf8ee6eb05618aad4f60e08e741d90f122133a960b404de0779ecdf169efdf", func := "orrery/orrerylaw04.SpanSets", spec := "spanSets", inPlace := ["math.Float64bits", "math.Float64frombits"], apart := false, narrowed := true }
def SpanSetsUptoSaid : Prop := spanSetsUptoRow.holds Try.pinned (OpenSpec.upto spanSetsSpec)

/-- 'orrerylaw04.SpanMiddle', WHERE WHAT IT READS IS OF BULK AT MOST 1048576: true; the input reads as it did. -/
def spanMiddleUptoRow : OpenClaim := { program := "ytkfagpahbojigaa", sum := "6ebf8ee6eb05618aad4f60e08e741d90f122133a960b404de0779ecdf169efdf", func := "orrery/orrerylaw04.SpanMiddle", spec := "spanMiddle", inPlace := ["math.Float64bits", "math.Float64frombits"], apart := false, narrowed := true }
def SpanMiddleUptoSaid : Prop := spanMiddleUptoRow.holds Try.pinned (OpenSpec.upto spanMiddleSpec)

end Rows
end Go.Proofs.Ytkfagpahbojigaa
