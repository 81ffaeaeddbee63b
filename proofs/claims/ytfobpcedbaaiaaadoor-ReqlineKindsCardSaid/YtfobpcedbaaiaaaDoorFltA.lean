/- Errors of package fault: closed facts on their dynamic types, and the contracts of Unwrap and of errors.Unwrap. -/
import Derived.Test.YtfobpcedbaaiaaaDoorProg
import Derived.WalkKit
import Derived.LaidEql
import Derived.Stop.Asserts
import Derived.RowKitTokens
import Derived.Outline
import Derived.Lib.Hide
namespace Go.Proofs.YtfobpcedbaaiaaaDoor
open Go.RowKit Go.Extern.Stop Go.Stop Go.Extern

/-! ### type assertions -/
theorem Tryd.unwrapS (v : Value) (xT : TypeId) (w : World) : (Instr.typeAssert (.iface 46 v) xT 97 true).run Tryd.prog w = .ok (.tuple #[.nilIface, .bool false]) w :=
  run_typeAssert_lacksB Tryd.underlying97 (by kernel_rfl) (by kernel_rfl) v xT w
theorem Tryd.unwrapF (v : Value) (xT : TypeId) (w : World) : (Instr.typeAssert (.iface 63 v) xT 97 true).run Tryd.prog w = .ok (.tuple #[.iface 63 v, .bool true]) w :=
  run_typeAssert_hasB Tryd.underlying97 (by kernel_rfl) v xT w
theorem unwrap_status (v : Value) (w : World) :
    Calls Tryd.prog 48 #[.iface 46 v] w fun e w' => e = .returned .nilIface ∧ w = w' := by
  have h1 := Tryd.unwrapS
  go_enter Tryd.func48, Tryd.ntmps48
  go_wp2
  go_ret
  exact ⟨rfl, rfl⟩

/-! ### methods -/
theorem Tryd.mUnwrapF (v : Value) (w : World) : (Go.method 250 63 v "Unwrap").run Tryd.prog w = .ok (93, v) w := by kernel_rfl
theorem Tryd.mErrorF (v : Value) (w : World) : (Go.method 250 63 v "Error").run Tryd.prog w = .ok (92, v) w := by kernel_rfl
theorem Tryd.mErrorS (v : Value) (w : World) : (Go.method 250 46 v "Error").run Tryd.prog w = .ok (91, v) w := by kernel_rfl

/-! ### the methods Unwrap -/
theorem unwrapF_any (s n : Int) (w : World) :
    Calls Tryd.prog 93 #[.agg #[.int .i64 s, .int .i64 n]] w fun e w' => e = .returned (.iface 46 (.int .i64 s)) ∧ w' = w.alloc (.cells #[.int .i64 s, .int .i64 n] 63) := by
  go_enter Tryd.func93, Tryd.ntmps93
  go_wp2
  go_ret
  exact ⟨rfl, rfl⟩
/-! ### errors.Unwrap -/
set_option maxRecDepth 100000 in
theorem unwrap_fault (s n : Int) (w : World) :
    Calls Tryd.prog 48 #[.iface 63 (.agg #[.int .i64 s, .int .i64 n])] w fun e w' => e = .returned (.iface 46 (.int .i64 s)) ∧ w' = w.alloc (.cells #[.int .i64 s, .int .i64 n] 63) := by
  have h1 := Tryd.unwrapF
  have h2 := Tryd.mUnwrapF
  go_enter Tryd.func48, Tryd.ntmps48
  go_wp2_with (go_at_call 93; refine (unwrapF_any _ _ _).mono ?_; rintro e w' ⟨rfl, rfl⟩)
  go_ret
  exact ⟨rfl, rfl⟩
end Go.Proofs.YtfobpcedbaaiaaaDoor
