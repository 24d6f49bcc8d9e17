/- PLAIN: the sums of two texts, reckoned by the kernel. -/
import Derived.Test.YtebjfmchpmbihaaSha
import Derived.KernelRfl
namespace Go.Proofs.Ytebjfmchpmbihaa
theorem sum_empty : sumL [] = [100, 97, 51, 57, 97, 51, 101, 101, 53, 101, 54, 98, 52, 98, 48, 100, 51, 50, 53, 53, 98, 102, 101, 102, 57, 53, 54, 48, 49, 56, 57, 48, 97, 102, 100, 56, 48, 55, 48, 57] := by kernel_rfl
theorem sum_abc : sumL [97, 98, 99] = [97, 57, 57, 57, 51, 101, 51, 54, 52, 55, 48, 54, 56, 49, 54, 97, 98, 97, 51, 101, 50, 53, 55, 49, 55, 56, 53, 48, 99, 50, 54, 99, 57, 99, 100, 48, 100, 56, 57, 100] := by kernel_rfl
end Go.Proofs.Ytebjfmchpmbihaa
