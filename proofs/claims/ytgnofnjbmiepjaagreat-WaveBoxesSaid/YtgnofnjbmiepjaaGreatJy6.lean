/- Proved here: what the texts Fre, Frf, Frg, Fri, Frj prove, one behind the other. -/
import Derived.Test.YtgnofnjbmiepjaaGreatJy3
import Derived.Test.YtgnofnjbmiepjaaGreatJv1

set_option maxRecDepth 100000
namespace Go.Proofs.YtgnofnjbmiepjaaGreat
open Go.ChangeShapes Go.WideShapes Go.ChangeAt Go.RowKit Ieee.Own

end Go.Proofs.YtgnofnjbmiepjaaGreat

namespace Go.Proofs.YtgnofnjbmiepjaaGreat
open Go.ChangeShapes Go.WideShapes Go.ChangeAt Go.RowKit Ieee.Own

end Go.Proofs.YtgnofnjbmiepjaaGreat

namespace Go.Proofs.YtgnofnjbmiepjaaGreat
open Go.ChangeShapes Go.WideShapes Go.ChangeAt Go.RowKit Ieee.Own

end Go.Proofs.YtgnofnjbmiepjaaGreat

namespace Go.Proofs.YtgnofnjbmiepjaaGreat
open Go.ChangeShapes Go.WideShapes Go.ChangeAt Go.RowKit Go.Deep Ieee.Own

theorem feq_gen {P : Program} {t : TypeId} {k' : FloatKind} (d : Nat) (a b : Nat) (w : World) (h : P.underlying t = some (.float k')) : (Op.equalIn (d + 1) t (.float .f64 a) (.float .f64 b)).run P w = .ok (FloatKind.f64.format.order a b == some Ordering.eq) w := by
 simp [Op.equalIn, run_underlying h]
 rfl
theorem feq_run (a b : Nat) (w : World) : (Op.equalIn 9999 23 (.float .f64 a) (.float .f64 b)).run Tryz.prog w = .ok (FloatKind.f64.format.order a b == some Ordering.eq) w := feq_gen 9998 a b w Tryz.underlying23
end Go.Proofs.YtgnofnjbmiepjaaGreat

namespace Go.Proofs.YtgnofnjbmiepjaaGreat
open Go.ChangeShapes Go.WideShapes Go.ChangeAt Go.RowKit Go.Deep Ieee.Own

end Go.Proofs.YtgnofnjbmiepjaaGreat
