/- Errors of package fault: closed facts on their dynamic types, and the contracts of Unwrap and of errors.Unwrap. -/
import Derived.Test.YtkibajlbjldhiaaDoorProg
import Derived.WalkKit
import Derived.LaidEql
import Derived.Stop.Asserts
import Derived.RowKitTokens
import Derived.Outline
import Derived.Lib.Hide
namespace Go.Proofs.YtkibajlbjldhiaaDoor
open Go.RowKit Go.Extern.Stop Go.Stop Go.Extern

/-! ### type assertions -/
theorem Tryd.unwrapS (v : Value) (xT : TypeId) (w : World) : (Instr.typeAssert (.iface 42 v) xT 92 true).run Tryd.prog w = .ok (.tuple #[.nilIface, .bool false]) w :=
  run_typeAssert_lacksB Tryd.underlying92 (by kernel_rfl) (by kernel_rfl) v xT w
theorem Tryd.unwrapF (v : Value) (xT : TypeId) (w : World) : (Instr.typeAssert (.iface 56 v) xT 92 true).run Tryd.prog w = .ok (.tuple #[.iface 56 v, .bool true]) w :=
  run_typeAssert_hasB Tryd.underlying92 (by kernel_rfl) v xT w
theorem unwrap_status (v : Value) (w : World) :
    Calls Tryd.prog 37 #[.iface 42 v] w fun e w' => e = .returned .nilIface ∧ w = w' := by
  have h1 := Tryd.unwrapS
  go_enter Tryd.func37, Tryd.ntmps37
  go_wp2
  go_ret
  exact ⟨rfl, rfl⟩

/-! ### methods -/
theorem Tryd.mUnwrapF (v : Value) (w : World) : (Go.method 244 56 v "Unwrap").run Tryd.prog w = .ok (79, v) w := by kernel_rfl
theorem Tryd.mErrorF (v : Value) (w : World) : (Go.method 244 56 v "Error").run Tryd.prog w = .ok (78, v) w := by kernel_rfl
theorem Tryd.mErrorS (v : Value) (w : World) : (Go.method 244 42 v "Error").run Tryd.prog w = .ok (77, v) w := by kernel_rfl

/-! ### the methods Unwrap -/
theorem unwrapF_any (s n : Int) (w : World) :
    Calls Tryd.prog 79 #[.agg #[.int .i64 s, .int .i64 n]] w fun e w' => e = .returned (.iface 42 (.int .i64 s)) ∧ w' = w.alloc (.cells #[.int .i64 s, .int .i64 n] 56) := by
  go_enter Tryd.func79, Tryd.ntmps79
  go_wp2
  go_ret
  exact ⟨rfl, rfl⟩
/-! ### errors.Unwrap -/
set_option maxRecDepth 100000 in
theorem unwrap_fault (s n : Int) (w : World) :
    Calls Tryd.prog 37 #[.iface 56 (.agg #[.int .i64 s, .int .i64 n])] w fun e w' => e = .returned (.iface 42 (.int .i64 s)) ∧ w' = w.alloc (.cells #[.int .i64 s, .int .i64 n] 56) := by
  have h1 := Tryd.unwrapF
  have h2 := Tryd.mUnwrapF
  go_enter Tryd.func37, Tryd.ntmps37
  go_wp2_with (go_at_call 79; refine (unwrapF_any _ _ _).mono ?_; rintro e w' ⟨rfl, rfl⟩)
  go_ret
  exact ⟨rfl, rfl⟩
end Go.Proofs.YtkibajlbjldhiaaDoor
