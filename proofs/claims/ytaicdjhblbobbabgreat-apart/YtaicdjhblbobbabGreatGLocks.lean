/- The numbers under which this program holds the functions and types of the language's own lock; the kernel checks each. -/
import Derived.Test.YtaicdjhblbobbabGreatProg
import Derived.Conc.RwLib
import Derived.Conc.MuData
import Derived.KernelRfl
namespace Go.Proofs
abbrev Tryz.muLink : Go.Conc.Locks.MuLink := { lock := 29, unlock := 30, ilock := 50, iunlock := 51, lockSlow := 73, unlockSlow := 76, disable := 69, enable := 71, acquire := 72, relMerge := 74, cas32 := 70, add32 := 75, tMutex := 62, tIMutex := 60, tPMutex := 102, tPIMutex := 129, tPI32 := 131, tUP := 133, tNoCopy := 57, tU32 := 58 }
theorem Tryz.muLib : Go.Conc.Locks.MuLib Tryz.prog Tryz.muLink :=
  ⟨Tryz.func29, Tryz.func30, Tryz.func50, Tryz.func51, Tryz.func69, Tryz.func71, Tryz.func72, Tryz.func74, Tryz.func70, Tryz.func75, Tryz.underlying60, Tryz.runUnderlying60, Tryz.sizeOf60, Tryz.isAgg60, Tryz.zeroValue60, Tryz.underlying62, Tryz.runUnderlying62, Tryz.sizeOf62, Tryz.isAgg62, Tryz.zeroValue62, Tryz.underlying102, Tryz.runUnderlying102, Tryz.sizeOf102, Tryz.isAgg102, Tryz.zeroValue102, Tryz.underlying129, Tryz.runUnderlying129, Tryz.sizeOf129, Tryz.isAgg129, Tryz.zeroValue129, Tryz.underlying131, Tryz.runUnderlying131, Tryz.sizeOf131, Tryz.isAgg131, Tryz.zeroValue131, Tryz.underlying133, Tryz.runUnderlying133, Tryz.sizeOf133, Tryz.isAgg133, Tryz.zeroValue133, Tryz.underlying57, Tryz.runUnderlying57, Tryz.sizeOf57, Tryz.isAgg57, Tryz.zeroValue57, Tryz.underlying21, Tryz.runUnderlying21, Tryz.sizeOf21, Tryz.isAgg21, Tryz.zeroValue21, (by kernel_rfl)⟩
end Go.Proofs
