/-
  No cell of these rows narrows 'for every input' (looked for: loops, veiled, ifaces, maps, wideKeys, modest, calm, conditions, laid).
  DERIVED. THE GIVEN ROWS OF THIS SEAT. 7 by the template 'for every input the law returns true; each argument reads behind the call as it read before'; 0 by the template 'total and deterministic' (their statements: YtbnifpggcfcmhaaTotals.lean).
  GIVEN WITH THE SEED: the statements are not yours to turn. If you find one false, say at which input.
  Laid BY PROGRAM, IN A SANDBOX (cutbox-rows.mjs): the forced cells as the released guide's own fill.sh prints them over the translation d06851444ea1e50d… (all of the seat's roots in one cut). By AI agents, Wed Nov 11 2026. No macro, syntax, notation, axiom, sorry.
-/
import Derived.Test.YtbnifpggcfcmhaaChecked
import GoSem.Claim
import GoSem.ClaimJoined
import GoSem.ClaimMapViews
import Derived.JoinedTies
import Derived.KernelRfl
namespace Go.Proofs.Ytbnifpggcfcmhaa
/- THE CELL 'sum', in the pinned program and in every row, IS THE sha256 OF THE DUMP (.gsa) THAT YtbnifpggcfcmhaaProg.lean LOADS. Nothing in Lean hashes anything: it is a label: what it is worth is what the hold of that sum in a sandbox is worth. -/
noncomputable def Try.pinned : Pinned := { name := "ytbnifpggcfcmhaa", sum := "d06851444ea1e50dff45a8f4a39bdc223c8bae582afa50ac3174c7d4f997ab50", checked := Try.checked }
namespace Rows
def none {H : Type} : Left H := { results := [], args := [] }

/-- 'orrerylaw02.TwainTells': WHATEVER THE INPUT: true; the input reads as it did. -/
def twainTellsSpec : ChangeSpec := { name := "twainTells", fn := fun _ => fun
  | [d1, d2] => { results := [.lit (.bool true)], args := [d1, d2] }
  | _ => none }
def twainTellsRow : OpenClaim := { program := "ytbnifpggcfcmhaa", sum := "d06851444ea1e50dff45a8f4a39bdc223c8bae582afa50ac3174c7d4f997ab50", func := "orrery/orrerylaw02.TwainTells", spec := "twainTells", inPlace := ["math.Float64bits", "math.Float64frombits", "math.sqrt"], apart := false }
def TwainTellsSaid : Prop := twainTellsRow.holds Try.pinned (OpenSpec.ofChange twainTellsSpec)

/-- ITS FALSE NEIGHBOUR: 'it returns false'. Refute it at one input. -/
def twainTellsWrong : ChangeSpec := { name := "twainTells", fn := fun _ => fun
  | [d1, d2] => { results := [.lit (.bool false)], args := [d1, d2] }
  | _ => none }
def TwainTellsWrongFalsely : Prop := twainTellsRow.holds Try.pinned (OpenSpec.ofChange twainTellsWrong)

/-- 'orrerylaw02.TwainSums': WHATEVER THE INPUT: true; the input reads as it did. -/
def twainSumsSpec : ChangeSpec := { name := "twainSums", fn := fun _ => fun
  | [d1, d2] => { results := [.lit (.bool true)], args := [d1, d2] }
  | _ => none }
def twainSumsRow : OpenClaim := { program := "ytbnifpggcfcmhaa", sum := "d06851444ea1e50dff45a8f4a39bdc223c8bae582afa50ac3174c7d4f997ab50", func := "orrery/orrerylaw02.TwainSums", spec := "twainSums", inPlace := ["math.Float64bits", "math.Float64frombits", "math/bits.Sub64", "math/bits.Add64"], apart := false }
def TwainSumsSaid : Prop := twainSumsRow.holds Try.pinned (OpenSpec.ofChange twainSumsSpec)

/-- ITS FALSE NEIGHBOUR: 'it returns false'. Refute it at one input. -/
def twainSumsWrong : ChangeSpec := { name := "twainSums", fn := fun _ => fun
  | [d1, d2] => { results := [.lit (.bool false)], args := [d1, d2] }
  | _ => none }
def TwainSumsWrongFalsely : Prop := twainSumsRow.holds Try.pinned (OpenSpec.ofChange twainSumsWrong)

/-- 'orrerylaw02.TwainProds': WHATEVER THE INPUT: true; the input reads as it did. -/
def twainProdsSpec : ChangeSpec := { name := "twainProds", fn := fun _ => fun
  | [d1, d2] => { results := [.lit (.bool true)], args := [d1, d2] }
  | _ => none }
def twainProdsRow : OpenClaim := { program := "ytbnifpggcfcmhaa", sum := "d06851444ea1e50dff45a8f4a39bdc223c8bae582afa50ac3174c7d4f997ab50", func := "orrery/orrerylaw02.TwainProds", spec := "twainProds", inPlace := ["math.Float64bits", "math.Float64frombits", "math/bits.Sub64", "math/bits.Add64"], apart := false }
def TwainProdsSaid : Prop := twainProdsRow.holds Try.pinned (OpenSpec.ofChange twainProdsSpec)

/-- ITS FALSE NEIGHBOUR: 'it returns false'. Refute it at one input. -/
def twainProdsWrong : ChangeSpec := { name := "twainProds", fn := fun _ => fun
  | [d1, d2] => { results := [.lit (.bool false)], args := [d1, d2] }
  | _ => none }
def TwainProdsWrongFalsely : Prop := twainProdsRow.holds Try.pinned (OpenSpec.ofChange twainProdsWrong)

/-- 'orrerylaw02.TwainQuots': WHATEVER THE INPUT: true; the input reads as it did. -/
def twainQuotsSpec : ChangeSpec := { name := "twainQuots", fn := fun _ => fun
  | [d1, d2] => { results := [.lit (.bool true)], args := [d1, d2] }
  | _ => none }
def twainQuotsRow : OpenClaim := { program := "ytbnifpggcfcmhaa", sum := "d06851444ea1e50dff45a8f4a39bdc223c8bae582afa50ac3174c7d4f997ab50", func := "orrery/orrerylaw02.TwainQuots", spec := "twainQuots", inPlace := ["math.Float64bits", "math.Float64frombits", "math/bits.Sub64", "math/bits.Add64"], apart := false }
def TwainQuotsSaid : Prop := twainQuotsRow.holds Try.pinned (OpenSpec.ofChange twainQuotsSpec)

/-- ITS FALSE NEIGHBOUR: 'it returns false'. Refute it at one input. -/
def twainQuotsWrong : ChangeSpec := { name := "twainQuots", fn := fun _ => fun
  | [d1, d2] => { results := [.lit (.bool false)], args := [d1, d2] }
  | _ => none }
def TwainQuotsWrongFalsely : Prop := twainQuotsRow.holds Try.pinned (OpenSpec.ofChange twainQuotsWrong)

/-- 'orrerylaw02.TwainRoots': WHATEVER THE INPUT: true; the input reads as it did. -/
def twainRootsSpec : ChangeSpec := { name := "twainRoots", fn := fun _ => fun
  | [d] => { results := [.lit (.bool true)], args := [d] }
  | _ => none }
def twainRootsRow : OpenClaim := { program := "ytbnifpggcfcmhaa", sum := "d06851444ea1e50dff45a8f4a39bdc223c8bae582afa50ac3174c7d4f997ab50", func := "orrery/orrerylaw02.TwainRoots", spec := "twainRoots", inPlace := ["math.Float64bits", "math.Float64frombits", "math.sqrt", "math/bits.Sub64", "math/bits.Add64"], apart := false }
def TwainRootsSaid : Prop := twainRootsRow.holds Try.pinned (OpenSpec.ofChange twainRootsSpec)

/-- ITS FALSE NEIGHBOUR: 'it returns false'. Refute it at one input. -/
def twainRootsWrong : ChangeSpec := { name := "twainRoots", fn := fun _ => fun
  | [d] => { results := [.lit (.bool false)], args := [d] }
  | _ => none }
def TwainRootsWrongFalsely : Prop := twainRootsRow.holds Try.pinned (OpenSpec.ofChange twainRootsWrong)

/-- 'orrerylaw02.TwainSmall': WHATEVER THE INPUT: true; the input reads as it did. -/
def twainSmallSpec : ChangeSpec := { name := "twainSmall", fn := fun _ => fun
  | [d1, d2] => { results := [.lit (.bool true)], args := [d1, d2] }
  | _ => none }
def twainSmallRow : OpenClaim := { program := "ytbnifpggcfcmhaa", sum := "d06851444ea1e50dff45a8f4a39bdc223c8bae582afa50ac3174c7d4f997ab50", func := "orrery/orrerylaw02.TwainSmall", spec := "twainSmall", inPlace := ["math.Float64bits", "math.Float64frombits"], apart := false }
def TwainSmallSaid : Prop := twainSmallRow.holds Try.pinned (OpenSpec.ofChange twainSmallSpec)

/-- ITS FALSE NEIGHBOUR: 'it returns false'. Refute it at one input. -/
def twainSmallWrong : ChangeSpec := { name := "twainSmall", fn := fun _ => fun
  | [d1, d2] => { results := [.lit (.bool false)], args := [d1, d2] }
  | _ => none }
def TwainSmallWrongFalsely : Prop := twainSmallRow.holds Try.pinned (OpenSpec.ofChange twainSmallWrong)

/-- 'orrerylaw02.TwainEither': WHATEVER THE INPUT: true; the input reads as it did. -/
def twainEitherSpec : ChangeSpec := { name := "twainEither", fn := fun _ => fun
  | [d1, d2] => { results := [.lit (.bool true)], args := [d1, d2] }
  | _ => none }
def twainEitherRow : OpenClaim := { program := "ytbnifpggcfcmhaa", sum := "d06851444ea1e50dff45a8f4a39bdc223c8bae582afa50ac3174c7d4f997ab50", func := "orrery/orrerylaw02.TwainEither", spec := "twainEither", inPlace := ["math.Float64bits", "math.Float64frombits"], apart := false }
def TwainEitherSaid : Prop := twainEitherRow.holds Try.pinned (OpenSpec.ofChange twainEitherSpec)

/-- ITS FALSE NEIGHBOUR: 'it returns false'. Refute it at one input. -/
def twainEitherWrong : ChangeSpec := { name := "twainEither", fn := fun _ => fun
  | [d1, d2] => { results := [.lit (.bool false)], args := [d1, d2] }
  | _ => none }
def TwainEitherWrongFalsely : Prop := twainEitherRow.holds Try.pinned (OpenSpec.ofChange twainEitherWrong)

/- THE SECOND FORM. 'bulk': how many values and letters a reading holds, each counted each time it is reached (what is shared counts as often as it is met; a slice's spare places count too). A statement '..UptoSaid' is the law's where the arguments, and the package variables that the reading takes, are together of bulk at most 1048576: NARROWER than '..Said'. Prove '..Said' where nothing that the law and all that it calls make is longer than what came in: it says more and counts as full. Else prove '..UptoSaid'. A law counts once. -/
mutual
def uptoBulk {H : Type} : DataW H → Nat
  | .lit (.string bytes) => bytes.length + 1
  | .lit _ => 1
  | .nil => 1
  | .ptr d => uptoBulk d + 1
  | .slice elems spare => uptoBulkAll elems + uptoBulkAll spare + 1
  | .agg parts => uptoBulkAll parts + 1
  | .iface _ d => uptoBulk d + 1
  | .map entries => uptoBulkEntries entries + 1
  | .held _ => 1
def uptoBulkAll {H : Type} : List (DataW H) → Nat
  | [] => 0
  | d :: r => uptoBulk d + uptoBulkAll r
def uptoBulkEntries {H : Type} : List (Lit × DataW H) → Nat
  | [] => 0
  | x :: r => uptoBulkEntry x + uptoBulkEntries r
def uptoBulkEntry {H : Type} : Lit × DataW H → Nat
  | (.string bytes, d) => bytes.length + uptoBulk d + 1
  | (_, d) => uptoBulk d + 1
 end
def uptoSmall : (H : Type) → List (DataW H) → Bool := fun _ ds => decide (uptoBulkAll ds ≤ 1048576)
def OpenSpec.upto (s : _root_.Go.ChangeSpec) : _root_.Go.OpenSpec := { _root_.Go.OpenSpec.ofChange s with cond := some uptoSmall }

/-- 'orrerylaw02.TwainTells', WHERE WHAT IT READS IS OF BULK AT MOST 1048576: true; the input reads as it did. -/
def twainTellsUptoRow : OpenClaim := { program := "ytbnifpggcfcmhaa", sum := "d06851444ea1e50dff45a8f4a39bdc223c8bae582afa50ac3174c7d4f997ab50", func := "orrery/orrerylaw02.TwainTells", spec := "twainTells", inPlace := ["math.Float64bits", "math.Float64frombits", "math.sqrt"], apart := false, narrowed := true }
def TwainTellsUptoSaid : Prop := twainTellsUptoRow.holds Try.pinned (OpenSpec.upto twainTellsSpec)

/-- 'orrerylaw02.TwainSums', WHERE WHAT IT READS IS OF BULK AT MOST 1048576: true; the input reads as it did. -/
def twainSumsUptoRow : OpenClaim := { program := "ytbnifpggcfcmhaa", sum := "d06851444ea1e50dff45a8f4a39bdc223c8bae582afa50ac3174c7d4f997ab50", func := "orrery/orrerylaw02.TwainSums", spec := "twainSums", inPlace := ["math.Float64bits", "math.Float64frombits", "math/bits.Sub64", "math/bits.Add64"], apart := false, narrowed := true }
def TwainSumsUptoSaid : Prop := twainSumsUptoRow.holds Try.pinned (OpenSpec.upto twainSumsSpec)

/-- 'orrerylaw02.TwainProds', WHERE WHAT IT READS IS OF BULK AT MOST 1048576: true; the input reads as it did. -/
def twainProdsUptoRow : OpenClaim := { program := "ytbnifpggcfcmhaa", sum := "d06851444ea1e50dff45a8f4a39bdc223c8bae582afa50ac3174c7d4f997ab50", func := "orrery/orrerylaw02.TwainProds", spec := "twainProds", inPlace := ["math.Float64bits", "math.Float64frombits", "math/bits.Sub64", "math/bits.Add64"], apart := false, narrowed := true }
def TwainProdsUptoSaid : Prop := twainProdsUptoRow.holds Try.pinned (OpenSpec.upto twainProdsSpec)

/-- 'orrerylaw02.TwainQuots', WHERE WHAT IT READS IS OF BULK AT MOST 1048576: true; the input reads as it did. -/
def twainQuotsUptoRow : OpenClaim := { program := "ytbnifpggcfcmhaa", sum := "d06851444ea1e50dff45a8f4a39bdc223c8bae582afa50ac3174c7d4f997ab50", func := "orrery/orrerylaw02.TwainQuots", spec := "twainQuots", inPlace := ["math.Float64bits", "math.Float64frombits", "math/bits.Sub64", "math/bits.Add64"], apart := false, narrowed := true }
def TwainQuotsUptoSaid : Prop := twainQuotsUptoRow.holds Try.pinned (OpenSpec.upto twainQuotsSpec)

/-- 'orrerylaw02.TwainRoots', WHERE WHAT IT READS IS OF BULK AT MOST 1048576: true; the input reads as it did. -/
def twainRootsUptoRow : OpenClaim := { program := "ytbnifpggcfcmhaa", sum := "d06851444ea1e50dff45a8f4a39bdc223c8bae582afa50ac3174c7d4f997ab50", func := "orrery/orrerylaw02.TwainRoots", spec := "twainRoots", inPlace := ["math.Float64bits", "math.Float64frombits", "math.sqrt", "math/bits.Sub64", "math/bits.Add64"], apart := false, narrowed := true }
def TwainRootsUptoSaid : Prop := twainRootsUptoRow.holds Try.pinned (OpenSpec.upto twainRootsSpec)

/-- 'orrerylaw02.TwainSmall', WHERE WHAT IT READS IS OF BULK AT MOST 1048576: true; the input reads as it did. -/
def twainSmallUptoRow : OpenClaim := { program := "ytbnifpggcfcmhaa", sum := "d06851444ea1e50dff45a8f4a39bdc223c8bae582afa50ac3174c7d4f997ab50", func := "orrery/orrerylaw02.TwainSmall", spec := "twainSmall", inPlace := ["math.Float64bits", "math.Float64frombits"], apart := false, narrowed := true }
def TwainSmallUptoSaid : Prop := twainSmallUptoRow.holds Try.pinned (OpenSpec.upto twainSmallSpec)

/-- 'orrerylaw02.TwainEither', WHERE WHAT IT READS IS OF BULK AT MOST 1048576: true; the input reads as it did. -/
def twainEitherUptoRow : OpenClaim := { program := "ytbnifpggcfcmhaa", sum := "d06851444ea1e50dff45a8f4a39bdc223c8bae582afa50ac3174c7d4f997ab50", func := "orrery/orrerylaw02.TwainEither", spec := "twainEither", inPlace := ["math.Float64bits", "math.Float64frombits"], apart := false, narrowed := true }
def TwainEitherUptoSaid : Prop := twainEitherUptoRow.holds Try.pinned (OpenSpec.upto twainEitherSpec)

end Rows
end Go.Proofs.Ytbnifpggcfcmhaa
