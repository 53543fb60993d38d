/- Proved here: what the texts Oma, Omc, Omd prove, one behind the other. -/
import Derived.Test.YtgnofnjbmiepjaaJm
import Derived.Test.YtgnofnjbmiepjaaJb6

namespace Ply

end Ply

namespace Go.Proofs.Ytgnofnjbmiepjaa
open Ieee Ieee.Own

/-- the units of a half -/
def hlf : Int := 4 * eig
theorem hlf_pos : 0 < hlf := by have := eig_pos; unfold hlf; omega
theorem hlf_two : 2 * hlf = 2 ^ 1074 := by decide +kernel
/-- behind N whole ones more the same is left, where no half is -/
theorem left_more {v N : Int} (h : rq hlf v ≠ hlf ∧ rq hlf v ≠ -hlf) : rq hlf (v + N * 2 ^ 1074) = rq hlf v ∧ kq hlf (v + N * 2 ^ 1074) = kq hlf v + N := by
  have b := rq_bd hlf_pos v
  have e : v = 2 * hlf * kq hlf v + rq hlf v := by unfold rq; omega
  have u := kq_uniq (H := hlf) (v := v + N * 2 ^ 1074) (k := kq hlf v + N) (r := rq hlf v) hlf_pos (by
    rw [← hlf_two]
    generalize kq hlf v = k at *
    generalize rq hlf v = r at *
    rw [e]; grind) b.1 b.2.1 (fun q => absurd q (by omega))
  exact ⟨u.2, u.1⟩
end Go.Proofs.Ytgnofnjbmiepjaa

namespace Ply

end Ply
