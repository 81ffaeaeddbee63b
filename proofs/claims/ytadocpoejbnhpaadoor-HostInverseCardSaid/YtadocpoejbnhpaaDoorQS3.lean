/- Texts of one seat, merged: TgtD, TgtE, TgtF. -/
import Derived.Laws.Runes
import Derived.Lib.IndexAny
import Derived.Deep.QuietTactic
import Derived.BigQuiet
import Derived.LoopTactic
import Derived.WalkMore
import Derived.Lib.OthersKept
import Derived.WalkSmall
import Derived.Test.YtadocpoejbnhpaaDoorQP
import Derived.Test.YtadocpoejbnhpaaDoorQS2
namespace Go.Proofs.YtadocpoejbnhpaaDoor
set_option linter.all false
open Go.RowKit
end Go.Proofs.YtadocpoejbnhpaaDoor
namespace Go.Proofs.YtadocpoejbnhpaaDoor
set_option linter.all false
open Go.RowKit
theorem ext_take (s : ByteArray) (k : Nat) : (s.extract 0 k).data.toList = s.data.toList.take k := by
  rw [ByteArray.data_extract, Array.toList_extract, List.extract_eq_drop_take]
  simp
theorem ext_drop (s : ByteArray) (k : Nat) : (s.extract k s.size).data.toList = s.data.toList.drop k := by
  rw [ByteArray.data_extract, Array.toList_extract, List.extract_eq_drop_take]
  rw [List.take_of_length_le]
  have : s.size = s.data.toList.length := by simp
  rw [List.length_drop]; omega
theorem size_list (s : ByteArray) : s.size = s.data.toList.length := by simp
end Go.Proofs.YtadocpoejbnhpaaDoor
namespace Go.Proofs.YtadocpoejbnhpaaDoor
set_option linter.all false
open Go.RowKit
end Go.Proofs.YtadocpoejbnhpaaDoor
