/- Proved here: what the texts Fre, Frf, Frg, Fri, Frj prove, one behind the other. -/
import Derived.Test.YtdfcchocabapkaaGreatJy3
import Derived.Test.YtdfcchocabapkaaGreatJv1

namespace Go.Proofs.YtdfcchocabapkaaGreat
open Go.ChangeShapes Go.WideShapes Go.ChangeAt Go.RowKit Ieee.Own

theorem ret_vF {A : V3 × Int} {p1 p2 p3 : Nat} {k : Int} (h : ((p1, p2, p3), k) = A) : Ending.returned (.tuple #[.agg #[.float .f64 p1, .float .f64 p2, .float .f64 p3], .int .i64 k]) = .returned (vecE A.1 A.2) := by rw [← h]; rfl


end Go.Proofs.YtdfcchocabapkaaGreat

namespace Go.Proofs.YtdfcchocabapkaaGreat
open Go.ChangeShapes Go.WideShapes Go.ChangeAt Go.RowKit Go.Deep Ieee.Own


theorem Kv.far {w0 w : World} {L : List (Option (Nat × List Value))} (C : Kv w0 L w) {g : Nat} (hg : w0.heap.size ≤ g) (hne : ∀ (j h : Nat) (us : List Value), L[j]? = some (some (h, us)) → h ≠ g) (k : Nat) (v : Value) : Kv w0 L (w.setCell ⟨g, k, none⟩ v) :=
 ⟨C.old.setCell hg _, fun j h us hj => ⟨(C.blk j h us hj).1, (C.at_ j hj).other1 (hne j h us hj) v⟩, C.inj⟩
end Go.Proofs.YtdfcchocabapkaaGreat
