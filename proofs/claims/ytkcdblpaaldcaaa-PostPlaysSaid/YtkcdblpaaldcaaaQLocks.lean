/- The numbers under which this translation holds sync.Mutex's text. -/
import Derived.Test.YtkcdblpaaldcaaaChecked
import Derived.Conc.MuLone
import Derived.KernelRfl
namespace Go.Proofs.Ytkcdblpaaldcaaa
abbrev muLink : Go.Conc.Locks.MuLink := { lock := 26, unlock := 27, ilock := 29, iunlock := 30, lockSlow := 35, unlockSlow := 38, disable := 31, enable := 33, acquire := 34, relMerge := 36, cas32 := 32, add32 := 37, tMutex := 55, tIMutex := 53, tPMutex := 59, tPIMutex := 60, tPI32 := 62, tUP := 64, tNoCopy := 50, tU32 := 51 }
theorem muLib : Go.Conc.Locks.MuLib Try.prog muLink :=
  ⟨Try.func26, Try.func27, Try.func29, Try.func30, Try.func31, Try.func33, Try.func34, Try.func36, Try.func32, Try.func37, Try.underlying53, Try.runUnderlying53, Try.sizeOf53, Try.isAgg53, Try.zeroValue53, Try.underlying55, Try.runUnderlying55, Try.sizeOf55, Try.isAgg55, Try.zeroValue55, Try.underlying59, Try.runUnderlying59, Try.sizeOf59, Try.isAgg59, Try.zeroValue59, Try.underlying60, Try.runUnderlying60, Try.sizeOf60, Try.isAgg60, Try.zeroValue60, Try.underlying62, Try.runUnderlying62, Try.sizeOf62, Try.isAgg62, Try.zeroValue62, Try.underlying64, Try.runUnderlying64, Try.sizeOf64, Try.isAgg64, Try.zeroValue64, Try.underlying50, Try.runUnderlying50, Try.sizeOf50, Try.isAgg50, Try.zeroValue50, Try.underlying21, Try.runUnderlying21, Try.sizeOf21, Try.isAgg21, Try.zeroValue21, (by kernel_rfl)⟩
end Go.Proofs.Ytkcdblpaaldcaaa
