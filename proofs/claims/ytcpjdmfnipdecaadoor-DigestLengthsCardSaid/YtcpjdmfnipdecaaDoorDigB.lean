/- The arrays of package digest; rows of numbers. -/
import Derived.Test.YtcpjdmfnipdecaaDoorDigA
import Derived.Test.YtcpjdmfnipdecaaDoorNum
namespace Go.Proofs.YtcpjdmfnipdecaaDoor
set_option linter.all false
open Go.RowKit DigP

theorem At.lit64 (w : World) (T : TypeId) : At (w.alloc (.cells #[.int .u32 0, .int .u32 0, .int .u32 0, .int .u32 0, .int .u32 0, .int .u32 0, .int .u32 0, .int .u32 0, .int .u32 0, .int .u32 0, .int .u32 0, .int .u32 0, .int .u32 0, .int .u32 0, .int .u32 0, .int .u32 0, .int .u32 0, .int .u32 0, .int .u32 0, .int .u32 0, .int .u32 0, .int .u32 0, .int .u32 0, .int .u32 0, .int .u32 0, .int .u32 0, .int .u32 0, .int .u32 0, .int .u32 0, .int .u32 0, .int .u32 0, .int .u32 0, .int .u32 0, .int .u32 0, .int .u32 0, .int .u32 0, .int .u32 0, .int .u32 0, .int .u32 0, .int .u32 0, .int .u32 0, .int .u32 0, .int .u32 0, .int .u32 0, .int .u32 0, .int .u32 0, .int .u32 0, .int .u32 0, .int .u32 0, .int .u32 0, .int .u32 0, .int .u32 0, .int .u32 0, .int .u32 0, .int .u32 0, .int .u32 0, .int .u32 0, .int .u32 0, .int .u32 0, .int .u32 0, .int .u32 0, .int .u32 0, .int .u32 0, .int .u32 0] T)) w.heap.size .u32 (List.replicate 64 0) := At.new w .u32 (List.replicate 64 0) T
theorem At.lit32 (w : World) (T : TypeId) : At (w.alloc (.cells #[.int .u8 0, .int .u8 0, .int .u8 0, .int .u8 0, .int .u8 0, .int .u8 0, .int .u8 0, .int .u8 0, .int .u8 0, .int .u8 0, .int .u8 0, .int .u8 0, .int .u8 0, .int .u8 0, .int .u8 0, .int .u8 0, .int .u8 0, .int .u8 0, .int .u8 0, .int .u8 0, .int .u8 0, .int .u8 0, .int .u8 0, .int .u8 0, .int .u8 0, .int .u8 0, .int .u8 0, .int .u8 0, .int .u8 0, .int .u8 0, .int .u8 0, .int .u8 0] T)) w.heap.size .u8 (List.replicate 32 0) := At.new w .u8 (List.replicate 32 0) T
theorem At.lit8 (w : World) (T : TypeId) : At (w.alloc (.cells #[.int .u32 0, .int .u32 0, .int .u32 0, .int .u32 0, .int .u32 0, .int .u32 0, .int .u32 0, .int .u32 0] T)) w.heap.size .u32 (List.replicate 8 0) := At.new w .u32 (List.replicate 8 0) T
theorem Tryd.arr64 : ArrT Tryd.prog 57 64 := ⟨by kernel_rfl, fun w => by kernel_rfl⟩
theorem Tryd.arr32 : ArrT Tryd.prog 23 32 := ⟨by kernel_rfl, fun w => by kernel_rfl⟩
theorem Tryd.arrState : ArrT Tryd.prog 39 8 := ⟨by kernel_rfl, fun w => by kernel_rfl⟩
theorem Tryd.arr8 : ArrT Tryd.prog 38 8 := ⟨by kernel_rfl, fun w => by kernel_rfl⟩
theorem Tryd.numU8 : NumT Tryd.prog 35 5 .u8 1 := ⟨Tryd.underlying35, by kernel_rfl, by decide⟩
theorem Tryd.numU32 : NumT Tryd.prog 26 37 .u32 4 := ⟨Tryd.underlying26, by kernel_rfl, by decide⟩
theorem Tryd.numInt : NumT Tryd.prog 43 3 .i64 8 := ⟨Tryd.underlying43, by kernel_rfl, by decide⟩
end Go.Proofs.YtcpjdmfnipdecaaDoor
