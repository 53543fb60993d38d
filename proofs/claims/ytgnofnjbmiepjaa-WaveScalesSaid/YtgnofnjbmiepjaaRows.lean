/-
  No cell of these rows narrows 'for every input' (looked for: loops, veiled, ifaces, maps, wideKeys, modest, calm, conditions, laid).
  DERIVED. THE GIVEN ROWS OF THIS SEAT. 5 by the template 'for every input the law returns true; each argument reads behind the call as it read before'; 0 by the template 'total and deterministic' (their statements: YtgnofnjbmiepjaaTotals.lean).
  GIVEN WITH THE SEED: the statements are not yours to turn. If you find one false, say at which input.
  Laid BY PROGRAM, IN A SANDBOX (cutbox-rows.mjs): the forced cells as the released guide's own fill.sh prints them over the translation 6e3820d272e533de… (all of the seat's roots in one cut). By AI agents, Wed Nov 11 2026. No macro, syntax, notation, axiom, sorry.
-/
import Derived.Test.YtgnofnjbmiepjaaChecked
import GoSem.Claim
import GoSem.ClaimJoined
import GoSem.ClaimMapViews
import Derived.JoinedTies
import Derived.KernelRfl
namespace Go.Proofs.Ytgnofnjbmiepjaa
/- THE CELL 'sum', in the pinned program and in every row, IS THE sha256 OF THE DUMP (.gsa) THAT YtgnofnjbmiepjaaProg.lean LOADS. Nothing in Lean hashes anything: it is a label: what it is worth is what the hold of that sum in a sandbox is worth. -/
noncomputable def Try.pinned : Pinned := { name := "ytgnofnjbmiepjaa", sum := "6e3820d272e533de9fdc3bbc72a07d0f950eac2b6c6f07c675abd270f0fa71bb", checked := Try.checked }
namespace Rows
def none {H : Type} : Left H := { results := [], args := [] }

/-- 'orrerylaw12.WaveReach': WHATEVER THE INPUT: true; the input reads as it did. -/
def waveReachSpec : ChangeSpec := { name := "waveReach", fn := fun _ => fun
  | [d1, d2] => { results := [.lit (.bool true)], args := [d1, d2] }
  | _ => none }
def waveReachRow : OpenClaim := { program := "ytgnofnjbmiepjaa", sum := "6e3820d272e533de9fdc3bbc72a07d0f950eac2b6c6f07c675abd270f0fa71bb", func := "orrery/orrerylaw12.WaveReach", spec := "waveReach", inPlace := ["math.Float64bits", "math.Float64frombits", "math.RoundToEven"], unfollowed := true, recurses := true, apart := false }
def WaveReachSaid : Prop := waveReachRow.holds Try.pinned (OpenSpec.ofChange waveReachSpec)

/-- ITS FALSE NEIGHBOUR: 'it returns false'. Refute it at one input. -/
def waveReachWrong : ChangeSpec := { name := "waveReach", fn := fun _ => fun
  | [d1, d2] => { results := [.lit (.bool false)], args := [d1, d2] }
  | _ => none }
def WaveReachWrongFalsely : Prop := waveReachRow.holds Try.pinned (OpenSpec.ofChange waveReachWrong)

/-- 'orrerylaw12.WaveNarrows': WHATEVER THE INPUT: true; the input reads as it did. -/
def waveNarrowsSpec : ChangeSpec := { name := "waveNarrows", fn := fun _ => fun
  | [d1, d2] => { results := [.lit (.bool true)], args := [d1, d2] }
  | _ => none }
def waveNarrowsRow : OpenClaim := { program := "ytgnofnjbmiepjaa", sum := "6e3820d272e533de9fdc3bbc72a07d0f950eac2b6c6f07c675abd270f0fa71bb", func := "orrery/orrerylaw12.WaveNarrows", spec := "waveNarrows", inPlace := ["math.Float64bits", "math.Float64frombits", "math.RoundToEven", "math.Float32frombits"], unfollowed := true, recurses := true, apart := false }
def WaveNarrowsSaid : Prop := waveNarrowsRow.holds Try.pinned (OpenSpec.ofChange waveNarrowsSpec)

/-- ITS FALSE NEIGHBOUR: 'it returns false'. Refute it at one input. -/
def waveNarrowsWrong : ChangeSpec := { name := "waveNarrows", fn := fun _ => fun
  | [d1, d2] => { results := [.lit (.bool false)], args := [d1, d2] }
  | _ => none }
def WaveNarrowsWrongFalsely : Prop := waveNarrowsRow.holds Try.pinned (OpenSpec.ofChange waveNarrowsWrong)

/-- 'orrerylaw12.WaveMeets': WHATEVER THE INPUT: true; the input reads as it did. -/
def waveMeetsSpec : ChangeSpec := { name := "waveMeets", fn := fun _ => fun
  | [d1, d2, d3] => { results := [.lit (.bool true)], args := [d1, d2, d3] }
  | _ => none }
def waveMeetsRow : OpenClaim := { program := "ytgnofnjbmiepjaa", sum := "6e3820d272e533de9fdc3bbc72a07d0f950eac2b6c6f07c675abd270f0fa71bb", func := "orrery/orrerylaw12.WaveMeets", spec := "waveMeets", inPlace := ["math.Float64bits", "math.Float64frombits", "math.RoundToEven", "math.archCeil", "math.archFloor", "math.archTrunc"], unfollowed := true, recurses := true, apart := false }
def WaveMeetsSaid : Prop := waveMeetsRow.holds Try.pinned (OpenSpec.ofChange waveMeetsSpec)

/-- ITS FALSE NEIGHBOUR: 'it returns false'. Refute it at one input. -/
def waveMeetsWrong : ChangeSpec := { name := "waveMeets", fn := fun _ => fun
  | [d1, d2, d3] => { results := [.lit (.bool false)], args := [d1, d2, d3] }
  | _ => none }
def WaveMeetsWrongFalsely : Prop := waveMeetsRow.holds Try.pinned (OpenSpec.ofChange waveMeetsWrong)

/-- 'orrerylaw12.WaveHolds': WHATEVER THE INPUT: true; the input reads as it did. -/
def waveHoldsSpec : ChangeSpec := { name := "waveHolds", fn := fun _ => fun
  | [d1, d2] => { results := [.lit (.bool true)], args := [d1, d2] }
  | _ => none }
def waveHoldsRow : OpenClaim := { program := "ytgnofnjbmiepjaa", sum := "6e3820d272e533de9fdc3bbc72a07d0f950eac2b6c6f07c675abd270f0fa71bb", func := "orrery/orrerylaw12.WaveHolds", spec := "waveHolds", inPlace := ["math.Float64bits", "math.Float64frombits", "math.RoundToEven", "math.archCeil", "math.archFloor", "math.archTrunc"], unfollowed := true, recurses := true, apart := false }
def WaveHoldsSaid : Prop := waveHoldsRow.holds Try.pinned (OpenSpec.ofChange waveHoldsSpec)

/-- ITS FALSE NEIGHBOUR: 'it returns false'. Refute it at one input. -/
def waveHoldsWrong : ChangeSpec := { name := "waveHolds", fn := fun _ => fun
  | [d1, d2] => { results := [.lit (.bool false)], args := [d1, d2] }
  | _ => none }
def WaveHoldsWrongFalsely : Prop := waveHoldsRow.holds Try.pinned (OpenSpec.ofChange waveHoldsWrong)

/-- 'orrerylaw12.WaveScales': WHATEVER THE INPUT: true; the input reads as it did. -/
def waveScalesSpec : ChangeSpec := { name := "waveScales", fn := fun _ => fun
  | [d1, d2, d3] => { results := [.lit (.bool true)], args := [d1, d2, d3] }
  | _ => none }
def waveScalesRow : OpenClaim := { program := "ytgnofnjbmiepjaa", sum := "6e3820d272e533de9fdc3bbc72a07d0f950eac2b6c6f07c675abd270f0fa71bb", func := "orrery/orrerylaw12.WaveScales", spec := "waveScales", inPlace := ["math.Float64bits", "math.Float64frombits", "math.RoundToEven"], unfollowed := true, recurses := true, apart := false }
def WaveScalesSaid : Prop := waveScalesRow.holds Try.pinned (OpenSpec.ofChange waveScalesSpec)

/-- ITS FALSE NEIGHBOUR: 'it returns false'. Refute it at one input. -/
def waveScalesWrong : ChangeSpec := { name := "waveScales", fn := fun _ => fun
  | [d1, d2, d3] => { results := [.lit (.bool false)], args := [d1, d2, d3] }
  | _ => none }
def WaveScalesWrongFalsely : Prop := waveScalesRow.holds Try.pinned (OpenSpec.ofChange waveScalesWrong)

/- THE SECOND FORM. 'bulk': how many values and letters a reading holds, each counted each time it is reached (what is shared counts as often as it is met; a slice's spare places count too). A statement '..UptoSaid' is the law's where the arguments, and the package variables that the reading takes, are together of bulk at most 1048576: NARROWER than '..Said'. Prove '..Said' where nothing that the law and all that it calls make is longer than what came in: it says more and counts as full. Else prove '..UptoSaid'. A law counts once. -/
mutual
def uptoBulk {H : Type} : DataW H → Nat
  | .lit (.string bytes) => bytes.length + 1
  | .lit _ => 1
  | .nil => 1
  | .ptr d => uptoBulk d + 1
  | .slice elems spare => uptoBulkAll elems + uptoBulkAll spare + 1
  | .agg parts => uptoBulkAll parts + 1
  | .iface _ d => uptoBulk d + 1
  | .map entries => uptoBulkEntries entries + 1
  | .held _ => 1
def uptoBulkAll {H : Type} : List (DataW H) → Nat
  | [] => 0
  | d :: r => uptoBulk d + uptoBulkAll r
def uptoBulkEntries {H : Type} : List (Lit × DataW H) → Nat
  | [] => 0
  | x :: r => uptoBulkEntry x + uptoBulkEntries r
def uptoBulkEntry {H : Type} : Lit × DataW H → Nat
  | (.string bytes, d) => bytes.length + uptoBulk d + 1
  | (_, d) => uptoBulk d + 1
 end
def uptoSmall : (H : Type) → List (DataW H) → Bool := fun _ ds => decide (uptoBulkAll ds ≤ 1048576)
def OpenSpec.upto (s : _root_.Go.ChangeSpec) : _root_.Go.OpenSpec := { _root_.Go.OpenSpec.ofChange s with cond := some uptoSmall }

/-- 'orrerylaw12.WaveReach', WHERE WHAT IT READS IS OF BULK AT MOST 1048576: true; the input reads as it did. -/
def waveReachUptoRow : OpenClaim := { program := "ytgnofnjbmiepjaa", sum := "6e3820d272e533de9fdc3bbc72a07d0f950eac2b6c6f07c675abd270f0fa71bb", func := "orrery/orrerylaw12.WaveReach", spec := "waveReach", inPlace := ["math.Float64bits", "math.Float64frombits", "math.RoundToEven"], unfollowed := true, recurses := true, apart := false, narrowed := true }
def WaveReachUptoSaid : Prop := waveReachUptoRow.holds Try.pinned (OpenSpec.upto waveReachSpec)

/-- 'orrerylaw12.WaveNarrows', WHERE WHAT IT READS IS OF BULK AT MOST 1048576: true; the input reads as it did. -/
def waveNarrowsUptoRow : OpenClaim := { program := "ytgnofnjbmiepjaa", sum := "6e3820d272e533de9fdc3bbc72a07d0f950eac2b6c6f07c675abd270f0fa71bb", func := "orrery/orrerylaw12.WaveNarrows", spec := "waveNarrows", inPlace := ["math.Float64bits", "math.Float64frombits", "math.RoundToEven", "math.Float32frombits"], unfollowed := true, recurses := true, apart := false, narrowed := true }
def WaveNarrowsUptoSaid : Prop := waveNarrowsUptoRow.holds Try.pinned (OpenSpec.upto waveNarrowsSpec)

/-- 'orrerylaw12.WaveMeets', WHERE WHAT IT READS IS OF BULK AT MOST 1048576: true; the input reads as it did. -/
def waveMeetsUptoRow : OpenClaim := { program := "ytgnofnjbmiepjaa", sum := "6e3820d272e533de9fdc3bbc72a07d0f950eac2b6c6f07c675abd270f0fa71bb", func := "orrery/orrerylaw12.WaveMeets", spec := "waveMeets", inPlace := ["math.Float64bits", "math.Float64frombits", "math.RoundToEven", "math.archCeil", "math.archFloor", "math.archTrunc"], unfollowed := true, recurses := true, apart := false, narrowed := true }
def WaveMeetsUptoSaid : Prop := waveMeetsUptoRow.holds Try.pinned (OpenSpec.upto waveMeetsSpec)

/-- 'orrerylaw12.WaveHolds', WHERE WHAT IT READS IS OF BULK AT MOST 1048576: true; the input reads as it did. -/
def waveHoldsUptoRow : OpenClaim := { program := "ytgnofnjbmiepjaa", sum := "6e3820d272e533de9fdc3bbc72a07d0f950eac2b6c6f07c675abd270f0fa71bb", func := "orrery/orrerylaw12.WaveHolds", spec := "waveHolds", inPlace := ["math.Float64bits", "math.Float64frombits", "math.RoundToEven", "math.archCeil", "math.archFloor", "math.archTrunc"], unfollowed := true, recurses := true, apart := false, narrowed := true }
def WaveHoldsUptoSaid : Prop := waveHoldsUptoRow.holds Try.pinned (OpenSpec.upto waveHoldsSpec)

/-- 'orrerylaw12.WaveScales', WHERE WHAT IT READS IS OF BULK AT MOST 1048576: true; the input reads as it did. -/
def waveScalesUptoRow : OpenClaim := { program := "ytgnofnjbmiepjaa", sum := "6e3820d272e533de9fdc3bbc72a07d0f950eac2b6c6f07c675abd270f0fa71bb", func := "orrery/orrerylaw12.WaveScales", spec := "waveScales", inPlace := ["math.Float64bits", "math.Float64frombits", "math.RoundToEven"], unfollowed := true, recurses := true, apart := false, narrowed := true }
def WaveScalesUptoSaid : Prop := waveScalesUptoRow.holds Try.pinned (OpenSpec.upto waveScalesSpec)

end Rows
end Go.Proofs.Ytgnofnjbmiepjaa
