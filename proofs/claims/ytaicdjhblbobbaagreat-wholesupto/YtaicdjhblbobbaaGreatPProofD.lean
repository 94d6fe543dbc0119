/- What came in: numbers, and slices of numbers. -/
import Derived.Test.YtaicdjhblbobbaaGreatPKOuter
import Derived.Test.YtaicdjhblbobbaaGreatPKeepG
import Derived.ProofKit
import Derived.OpenShut
import Derived.ChangeSlices
import Derived.Carry
namespace Go.Proofs.YtaicdjhblbobbaaGreat
open Go.ChangeShapes Go.WideShapes Go.ChangeAt Go.RowKit

theorem Tryz.ownP : ownKnob Tryz.prog.godebug = none := by kernel_rfl
theorem Tryz.laidP : laidOutB Tryz.prog = true := by kernel_rfl
theorem wf_i64 {x : Int} (h : (Lit.int .i64 x).wf = true) : i64 x := by
  simp [Lit.wf, IntKind.min, IntKind.max, IntKind.signed, IntKind.bits] at h
  exact ⟨by omega, by omega⟩
end Go.Proofs.YtaicdjhblbobbaaGreat
