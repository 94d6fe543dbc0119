/- The numbers under which this program holds the functions and types of the language's own lock; the kernel checks each. -/
import Derived.Test.YtaicdjhblbobbaaGreatProg
import Derived.Conc.RwLib
import Derived.Conc.MuData
import Derived.KernelRfl
namespace Go.Proofs
abbrev Tryz.muLink : Go.Conc.Locks.MuLink := { lock := 43, unlock := 44, ilock := 74, iunlock := 75, lockSlow := 118, unlockSlow := 121, disable := 114, enable := 116, acquire := 117, relMerge := 119, cas32 := 115, add32 := 120, tMutex := 88, tIMutex := 86, tPMutex := 138, tPIMutex := 194, tPI32 := 196, tUP := 198, tNoCopy := 83, tU32 := 84 }
theorem Tryz.muLib : Go.Conc.Locks.MuLib Tryz.prog Tryz.muLink :=
  ⟨Tryz.func43, Tryz.func44, Tryz.func74, Tryz.func75, Tryz.func114, Tryz.func116, Tryz.func117, Tryz.func119, Tryz.func115, Tryz.func120, Tryz.underlying86, Tryz.runUnderlying86, Tryz.sizeOf86, Tryz.isAgg86, Tryz.zeroValue86, Tryz.underlying88, Tryz.runUnderlying88, Tryz.sizeOf88, Tryz.isAgg88, Tryz.zeroValue88, Tryz.underlying138, Tryz.runUnderlying138, Tryz.sizeOf138, Tryz.isAgg138, Tryz.zeroValue138, Tryz.underlying194, Tryz.runUnderlying194, Tryz.sizeOf194, Tryz.isAgg194, Tryz.zeroValue194, Tryz.underlying196, Tryz.runUnderlying196, Tryz.sizeOf196, Tryz.isAgg196, Tryz.zeroValue196, Tryz.underlying198, Tryz.runUnderlying198, Tryz.sizeOf198, Tryz.isAgg198, Tryz.zeroValue198, Tryz.underlying83, Tryz.runUnderlying83, Tryz.sizeOf83, Tryz.isAgg83, Tryz.zeroValue83, Tryz.underlying21, Tryz.runUnderlying21, Tryz.sizeOf21, Tryz.isAgg21, Tryz.zeroValue21, (by kernel_rfl)⟩
end Go.Proofs
