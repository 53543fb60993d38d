/-
  No cell of these rows narrows 'for every input' (looked for: loops, veiled, ifaces, maps, wideKeys, modest, calm, conditions, laid).
  DERIVED. THE GIVEN ROWS OF THIS SEAT. 6 by the template 'for every input the law returns true; each argument reads behind the call as it read before'; 0 by the template 'total and deterministic' (their statements: YtppggaibhfajjaaTotals.lean).
  GIVEN WITH THE SEED: the statements are not yours to turn. If you find one false, say at which input.
  Laid BY PROGRAM, IN A SANDBOX (cutbox-rows.mjs): the forced cells as the released guide's own fill.sh prints them over the translation 233bbe8c56462ba4… (all of the seat's roots in one cut). By AI agents, Wed Nov 11 2026. No macro, syntax, notation, axiom, sorry.
-/
import Derived.Test.YtppggaibhfajjaaChecked
import GoSem.Claim
import GoSem.ClaimJoined
import GoSem.ClaimMapViews
import Derived.JoinedTies
import Derived.KernelRfl
namespace Go.Proofs.Ytppggaibhfajjaa
/- THE CELL 'sum', in the pinned program and in every row, IS THE sha256 OF THE DUMP (.gsa) THAT YtppggaibhfajjaaProg.lean LOADS. Nothing in Lean hashes anything: it is a label: what it is worth is what the hold of that sum in a sandbox is worth. -/
noncomputable def Try.pinned : Pinned := { name := "ytppggaibhfajjaa", sum := "233bbe8c56462ba46cf09b769b1cf39534f0c5dc028752e6a76f51748fb4540e", checked := Try.checked }
namespace Rows
def none {H : Type} : Left H := { results := [], args := [] }

/-- 'orrerylaw08.DateTells': WHATEVER THE INPUT: true; the input reads as it did. -/
def dateTellsSpec : ChangeSpec := { name := "dateTells", fn := fun _ => fun
  | [d1, d2, d3] => { results := [.lit (.bool true)], args := [d1, d2, d3] }
  | _ => none }
def dateTellsRow : OpenClaim := { program := "ytppggaibhfajjaa", sum := "233bbe8c56462ba46cf09b769b1cf39534f0c5dc028752e6a76f51748fb4540e", func := "orrery/orrerylaw08.DateTells", spec := "dateTells", inPlace := ["math.Float64bits"], apart := false }
def DateTellsSaid : Prop := dateTellsRow.holds Try.pinned (OpenSpec.ofChange dateTellsSpec)

/-- ITS FALSE NEIGHBOUR: 'it returns false'. Refute it at one input. -/
def dateTellsWrong : ChangeSpec := { name := "dateTells", fn := fun _ => fun
  | [d1, d2, d3] => { results := [.lit (.bool false)], args := [d1, d2, d3] }
  | _ => none }
def DateTellsWrongFalsely : Prop := dateTellsRow.holds Try.pinned (OpenSpec.ofChange dateTellsWrong)

/-- 'orrerylaw08.DateCivils': WHATEVER THE INPUT: true; the input reads as it did. -/
def dateCivilsSpec : ChangeSpec := { name := "dateCivils", fn := fun _ => fun
  | [d1, d2, d3] => { results := [.lit (.bool true)], args := [d1, d2, d3] }
  | _ => none }
def dateCivilsRow : OpenClaim := { program := "ytppggaibhfajjaa", sum := "233bbe8c56462ba46cf09b769b1cf39534f0c5dc028752e6a76f51748fb4540e", func := "orrery/orrerylaw08.DateCivils", spec := "dateCivils", apart := false }
def DateCivilsSaid : Prop := dateCivilsRow.holds Try.pinned (OpenSpec.ofChange dateCivilsSpec)

/-- ITS FALSE NEIGHBOUR: 'it returns false'. Refute it at one input. -/
def dateCivilsWrong : ChangeSpec := { name := "dateCivils", fn := fun _ => fun
  | [d1, d2, d3] => { results := [.lit (.bool false)], args := [d1, d2, d3] }
  | _ => none }
def DateCivilsWrongFalsely : Prop := dateCivilsRow.holds Try.pinned (OpenSpec.ofChange dateCivilsWrong)

/-- 'orrerylaw08.DateThere': WHATEVER THE INPUT: true; the input reads as it did. -/
def dateThereSpec : ChangeSpec := { name := "dateThere", fn := fun _ => fun
  | [d1, d2] => { results := [.lit (.bool true)], args := [d1, d2] }
  | _ => none }
def dateThereRow : OpenClaim := { program := "ytppggaibhfajjaa", sum := "233bbe8c56462ba46cf09b769b1cf39534f0c5dc028752e6a76f51748fb4540e", func := "orrery/orrerylaw08.DateThere", spec := "dateThere", apart := false }
def DateThereSaid : Prop := dateThereRow.holds Try.pinned (OpenSpec.ofChange dateThereSpec)

/-- ITS FALSE NEIGHBOUR: 'it returns false'. Refute it at one input. -/
def dateThereWrong : ChangeSpec := { name := "dateThere", fn := fun _ => fun
  | [d1, d2] => { results := [.lit (.bool false)], args := [d1, d2] }
  | _ => none }
def DateThereWrongFalsely : Prop := dateThereRow.holds Try.pinned (OpenSpec.ofChange dateThereWrong)

/-- 'orrerylaw08.DateRuns': WHATEVER THE INPUT: true; the input reads as it did. -/
def dateRunsSpec : ChangeSpec := { name := "dateRuns", fn := fun _ => fun
  | [d1, d2] => { results := [.lit (.bool true)], args := [d1, d2] }
  | _ => none }
def dateRunsRow : OpenClaim := { program := "ytppggaibhfajjaa", sum := "233bbe8c56462ba46cf09b769b1cf39534f0c5dc028752e6a76f51748fb4540e", func := "orrery/orrerylaw08.DateRuns", spec := "dateRuns", apart := false }
def DateRunsSaid : Prop := dateRunsRow.holds Try.pinned (OpenSpec.ofChange dateRunsSpec)

/-- ITS FALSE NEIGHBOUR: 'it returns false'. Refute it at one input. -/
def dateRunsWrong : ChangeSpec := { name := "dateRuns", fn := fun _ => fun
  | [d1, d2] => { results := [.lit (.bool false)], args := [d1, d2] }
  | _ => none }
def DateRunsWrongFalsely : Prop := dateRunsRow.holds Try.pinned (OpenSpec.ofChange dateRunsWrong)

/-- 'orrerylaw08.DateYears': WHATEVER THE INPUT: true; the input reads as it did. -/
def dateYearsSpec : ChangeSpec := { name := "dateYears", fn := fun _ => fun
  | [d] => { results := [.lit (.bool true)], args := [d] }
  | _ => none }
def dateYearsRow : OpenClaim := { program := "ytppggaibhfajjaa", sum := "233bbe8c56462ba46cf09b769b1cf39534f0c5dc028752e6a76f51748fb4540e", func := "orrery/orrerylaw08.DateYears", spec := "dateYears", apart := false }
def DateYearsSaid : Prop := dateYearsRow.holds Try.pinned (OpenSpec.ofChange dateYearsSpec)

/-- ITS FALSE NEIGHBOUR: 'it returns false'. Refute it at one input. -/
def dateYearsWrong : ChangeSpec := { name := "dateYears", fn := fun _ => fun
  | [d] => { results := [.lit (.bool false)], args := [d] }
  | _ => none }
def DateYearsWrongFalsely : Prop := dateYearsRow.holds Try.pinned (OpenSpec.ofChange dateYearsWrong)

/-- 'orrerylaw08.DateBacks': WHATEVER THE INPUT: true; the input reads as it did. -/
def dateBacksSpec : ChangeSpec := { name := "dateBacks", fn := fun _ => fun
  | [d1, d2, d3] => { results := [.lit (.bool true)], args := [d1, d2, d3] }
  | _ => none }
def dateBacksRow : OpenClaim := { program := "ytppggaibhfajjaa", sum := "233bbe8c56462ba46cf09b769b1cf39534f0c5dc028752e6a76f51748fb4540e", func := "orrery/orrerylaw08.DateBacks", spec := "dateBacks", apart := false }
def DateBacksSaid : Prop := dateBacksRow.holds Try.pinned (OpenSpec.ofChange dateBacksSpec)

/-- ITS FALSE NEIGHBOUR: 'it returns false'. Refute it at one input. -/
def dateBacksWrong : ChangeSpec := { name := "dateBacks", fn := fun _ => fun
  | [d1, d2, d3] => { results := [.lit (.bool false)], args := [d1, d2, d3] }
  | _ => none }
def DateBacksWrongFalsely : Prop := dateBacksRow.holds Try.pinned (OpenSpec.ofChange dateBacksWrong)

/- THE SECOND FORM. 'bulk': how many values and letters a reading holds, each counted each time it is reached (what is shared counts as often as it is met; a slice's spare places count too). A statement '..UptoSaid' is the law's where the arguments, and the package variables that the reading takes, are together of bulk at most 1048576: NARROWER than '..Said'. Prove '..Said' where nothing that the law and all that it calls make is longer than what came in: it says more and counts as full. Else prove '..UptoSaid'. A law counts once. -/
mutual
def uptoBulk {H : Type} : DataW H → Nat
  | .lit (.string bytes) => bytes.length + 1
  | .lit _ => 1
  | .nil => 1
  | .ptr d => uptoBulk d + 1
  | .slice elems spare => uptoBulkAll elems + uptoBulkAll spare + 1
  | .agg parts => uptoBulkAll parts + 1
  | .iface _ d => uptoBulk d + 1
  | .map entries => uptoBulkEntries entries + 1
  | .held _ => 1
def uptoBulkAll {H : Type} : List (DataW H) → Nat
  | [] => 0
  | d :: r => uptoBulk d + uptoBulkAll r
def uptoBulkEntries {H : Type} : List (Lit × DataW H) → Nat
  | [] => 0
  | x :: r => uptoBulkEntry x + uptoBulkEntries r
def uptoBulkEntry {H : Type} : Lit × DataW H → Nat
  | (.string bytes, d) => bytes.length + uptoBulk d + 1
  | (_, d) => uptoBulk d + 1
 end
def uptoSmall : (H : Type) → List (DataW H) → Bool := fun _ ds => decide (uptoBulkAll ds ≤ 1048576)
def OpenSpec.upto (s : _root_.Go.ChangeSpec) : _root_.Go.OpenSpec := { _root_.Go.OpenSpec.ofChange s with cond := some uptoSmall }

/-- 'orrerylaw08.DateTells', WHERE WHAT IT READS IS OF BULK AT MOST 1048576: true; the input reads as it did. -/
def dateTellsUptoRow : OpenClaim := { program := "ytppggaibhfajjaa", sum := "233bbe8c56462ba46cf09b769b1cf39534f0c5dc028752e6a76f51748fb4540e", func := "orrery/orrerylaw08.DateTells", spec := "dateTells", inPlace := ["math.Float64bits"], apart := false, narrowed := true }
def DateTellsUptoSaid : Prop := dateTellsUptoRow.holds Try.pinned (OpenSpec.upto dateTellsSpec)

/-- 'orrerylaw08.DateCivils', WHERE WHAT IT READS IS OF BULK AT MOST 1048576: true; the input reads as it did. -/
def dateCivilsUptoRow : OpenClaim := { program := "ytppggaibhfajjaa", sum := "233bbe8c56462ba46cf09b769b1cf39534f0c5dc028752e6a76f51748fb4540e", func := "orrery/orrerylaw08.DateCivils", spec := "dateCivils", apart := false, narrowed := true }
def DateCivilsUptoSaid : Prop := dateCivilsUptoRow.holds Try.pinned (OpenSpec.upto dateCivilsSpec)

/-- 'orrerylaw08.DateThere', WHERE WHAT IT READS IS OF BULK AT MOST 1048576: true; the input reads as it did. -/
def dateThereUptoRow : OpenClaim := { program := "ytppggaibhfajjaa", sum := "233bbe8c56462ba46cf09b769b1cf39534f0c5dc028752e6a76f51748fb4540e", func := "orrery/orrerylaw08.DateThere", spec := "dateThere", apart := false, narrowed := true }
def DateThereUptoSaid : Prop := dateThereUptoRow.holds Try.pinned (OpenSpec.upto dateThereSpec)

/-- 'orrerylaw08.DateRuns', WHERE WHAT IT READS IS OF BULK AT MOST 1048576: true; the input reads as it did. -/
def dateRunsUptoRow : OpenClaim := { program := "ytppggaibhfajjaa", sum := "233bbe8c56462ba46cf09b769b1cf39534f0c5dc028752e6a76f51748fb4540e", func := "orrery/orrerylaw08.DateRuns", spec := "dateRuns", apart := false, narrowed := true }
def DateRunsUptoSaid : Prop := dateRunsUptoRow.holds Try.pinned (OpenSpec.upto dateRunsSpec)

/-- 'orrerylaw08.DateYears', WHERE WHAT IT READS IS OF BULK AT MOST 1048576: true; the input reads as it did. -/
def dateYearsUptoRow : OpenClaim := { program := "ytppggaibhfajjaa", sum := "233bbe8c56462ba46cf09b769b1cf39534f0c5dc028752e6a76f51748fb4540e", func := "orrery/orrerylaw08.DateYears", spec := "dateYears", apart := false, narrowed := true }
def DateYearsUptoSaid : Prop := dateYearsUptoRow.holds Try.pinned (OpenSpec.upto dateYearsSpec)

/-- 'orrerylaw08.DateBacks', WHERE WHAT IT READS IS OF BULK AT MOST 1048576: true; the input reads as it did. -/
def dateBacksUptoRow : OpenClaim := { program := "ytppggaibhfajjaa", sum := "233bbe8c56462ba46cf09b769b1cf39534f0c5dc028752e6a76f51748fb4540e", func := "orrery/orrerylaw08.DateBacks", spec := "dateBacks", apart := false, narrowed := true }
def DateBacksUptoSaid : Prop := dateBacksUptoRow.holds Try.pinned (OpenSpec.upto dateBacksSpec)

end Rows
end Go.Proofs.Ytppggaibhfajjaa
