/-
  No cell of these rows narrows 'for every input' (looked for: loops, veiled, ifaces, maps, wideKeys, modest, calm, conditions, laid).
  DERIVED. THE GIVEN ROWS OF THIS SEAT. 2 by the template 'for every input the law returns true; each argument reads behind the call as it read before'; 0 by the template 'total and deterministic' (their statements: YtdfcchocabapkaaGreatTotals.lean).
  GIVEN WITH THE SEED: the statements are not yours to turn. If you find one false, say at which input.
  Laid BY PROGRAM, IN A SANDBOX (cutbox-rows.mjs): the forced cells as the released guide's own fill.sh prints them over the translation 923236bc9a3f94b4… (all of the seat's roots in one cut). By AI agents, Wed Nov 11 2026. No macro, syntax, notation, axiom, sorry.
-/
import Derived.Test.YtdfcchocabapkaaGreatChecked
import GoSem.Claim
import GoSem.ClaimJoined
import GoSem.ClaimMapViews
import Derived.JoinedTies
import Derived.KernelRfl
namespace Go.Proofs.YtdfcchocabapkaaGreat
/- THE CELL 'sum', in the pinned program and in every row, IS THE sha256 OF THE DUMP (.gsa) THAT YtdfcchocabapkaaGreatProg.lean LOADS. Nothing in Lean hashes anything: it is a label: what it is worth is what the hold of that sum in a sandbox is worth. -/
noncomputable def Tryz.pinned : Pinned := { name := "ytdfcchocabapkaagreat", sum := "923236bc9a3f94b417a3f8381c558df31150729821e1478b4ba1abb129beebb6", checked := Tryz.checked }
namespace Rows
def none {H : Type} : Left H := { results := [], args := [] }

/-- 'orrerylaw11.OrbitBoxes': WHATEVER THE INPUT: true; the input reads as it did. -/
def orbitBoxesSpec : ChangeSpec := { name := "orbitBoxes", fn := fun _ => fun
  | [d1, d2, d3, d4] => { results := [.lit (.bool true)], args := [d1, d2, d3, d4] }
  | _ => none }
def orbitBoxesRow : OpenClaim := { program := "ytdfcchocabapkaagreat", sum := "923236bc9a3f94b417a3f8381c558df31150729821e1478b4ba1abb129beebb6", func := "orrery/orrerylaw11.OrbitBoxes", spec := "orbitBoxes", inPlace := ["math.Float64bits", "math.Float64frombits", "math.RoundToEven", "math.archFloor", "math.archTrunc", "math.archCeil", "math.sqrt"], unfollowed := true, recurses := true, apart := false }
def OrbitBoxesSaid : Prop := orbitBoxesRow.holds Tryz.pinned (OpenSpec.ofChange orbitBoxesSpec)

/-- ITS FALSE NEIGHBOUR: 'it returns false'. Refute it at one input. -/
def orbitBoxesWrong : ChangeSpec := { name := "orbitBoxes", fn := fun _ => fun
  | [d1, d2, d3, d4] => { results := [.lit (.bool false)], args := [d1, d2, d3, d4] }
  | _ => none }
def OrbitBoxesWrongFalsely : Prop := orbitBoxesRow.holds Tryz.pinned (OpenSpec.ofChange orbitBoxesWrong)

/-- 'orrerylaw11.OrbitHolds': WHATEVER THE INPUT: true; the input reads as it did. -/
def orbitHoldsSpec : ChangeSpec := { name := "orbitHolds", fn := fun _ => fun
  | [d1, d2] => { results := [.lit (.bool true)], args := [d1, d2] }
  | _ => none }
def orbitHoldsRow : OpenClaim := { program := "ytdfcchocabapkaagreat", sum := "923236bc9a3f94b417a3f8381c558df31150729821e1478b4ba1abb129beebb6", func := "orrery/orrerylaw11.OrbitHolds", spec := "orbitHolds", inPlace := ["math.Float64bits", "math.Float64frombits", "math.RoundToEven", "math.sqrt", "math.archFloor", "math.archTrunc", "math.archCeil"], unfollowed := true, recurses := true, apart := false }
def OrbitHoldsSaid : Prop := orbitHoldsRow.holds Tryz.pinned (OpenSpec.ofChange orbitHoldsSpec)

/-- ITS FALSE NEIGHBOUR: 'it returns false'. Refute it at one input. -/
def orbitHoldsWrong : ChangeSpec := { name := "orbitHolds", fn := fun _ => fun
  | [d1, d2] => { results := [.lit (.bool false)], args := [d1, d2] }
  | _ => none }
def OrbitHoldsWrongFalsely : Prop := orbitHoldsRow.holds Tryz.pinned (OpenSpec.ofChange orbitHoldsWrong)

/- THE SECOND FORM. 'bulk': how many values and letters a reading holds, each counted each time it is reached (what is shared counts as often as it is met; a slice's spare places count too). A statement '..UptoSaid' is the law's where the arguments, and the package variables that the reading takes, are together of bulk at most 1048576: NARROWER than '..Said'. Prove '..Said' where nothing that the law and all that it calls make is longer than what came in: it says more and counts as full. Else prove '..UptoSaid'. A law counts once. -/
mutual
def uptoBulk {H : Type} : DataW H → Nat
  | .lit (.string bytes) => bytes.length + 1
  | .lit _ => 1
  | .nil => 1
  | .ptr d => uptoBulk d + 1
  | .slice elems spare => uptoBulkAll elems + uptoBulkAll spare + 1
  | .agg parts => uptoBulkAll parts + 1
  | .iface _ d => uptoBulk d + 1
  | .map entries => uptoBulkEntries entries + 1
  | .held _ => 1
def uptoBulkAll {H : Type} : List (DataW H) → Nat
  | [] => 0
  | d :: r => uptoBulk d + uptoBulkAll r
def uptoBulkEntries {H : Type} : List (Lit × DataW H) → Nat
  | [] => 0
  | x :: r => uptoBulkEntry x + uptoBulkEntries r
def uptoBulkEntry {H : Type} : Lit × DataW H → Nat
  | (.string bytes, d) => bytes.length + uptoBulk d + 1
  | (_, d) => uptoBulk d + 1
 end
def uptoSmall : (H : Type) → List (DataW H) → Bool := fun _ ds => decide (uptoBulkAll ds ≤ 1048576)
def OpenSpec.upto (s : _root_.Go.ChangeSpec) : _root_.Go.OpenSpec := { _root_.Go.OpenSpec.ofChange s with cond := some uptoSmall }

/-- 'orrerylaw11.OrbitBoxes', WHERE WHAT IT READS IS OF BULK AT MOST 1048576: true; the input reads as it did. -/
def orbitBoxesUptoRow : OpenClaim := { program := "ytdfcchocabapkaagreat", sum := "923236bc9a3f94b417a3f8381c558df31150729821e1478b4ba1abb129beebb6", func := "orrery/orrerylaw11.OrbitBoxes", spec := "orbitBoxes", inPlace := ["math.Float64bits", "math.Float64frombits", "math.RoundToEven", "math.archFloor", "math.archTrunc", "math.archCeil", "math.sqrt"], unfollowed := true, recurses := true, apart := false, narrowed := true }
def OrbitBoxesUptoSaid : Prop := orbitBoxesUptoRow.holds Tryz.pinned (OpenSpec.upto orbitBoxesSpec)

/-- 'orrerylaw11.OrbitHolds', WHERE WHAT IT READS IS OF BULK AT MOST 1048576: true; the input reads as it did. -/
def orbitHoldsUptoRow : OpenClaim := { program := "ytdfcchocabapkaagreat", sum := "923236bc9a3f94b417a3f8381c558df31150729821e1478b4ba1abb129beebb6", func := "orrery/orrerylaw11.OrbitHolds", spec := "orbitHolds", inPlace := ["math.Float64bits", "math.Float64frombits", "math.RoundToEven", "math.sqrt", "math.archFloor", "math.archTrunc", "math.archCeil"], unfollowed := true, recurses := true, apart := false, narrowed := true }
def OrbitHoldsUptoSaid : Prop := orbitHoldsUptoRow.holds Tryz.pinned (OpenSpec.upto orbitHoldsSpec)

end Rows
end Go.Proofs.YtdfcchocabapkaaGreat
