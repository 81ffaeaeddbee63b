/- Errors of package fault: closed facts on their dynamic types, and the contracts of Unwrap and of errors.Unwrap. -/
import Derived.Test.YtehlhobogpgaaaaDoorProg
import Derived.WalkKit
import Derived.LaidEql
import Derived.Stop.Asserts
import Derived.RowKitTokens
import Derived.Outline
import Derived.Lib.Hide
namespace Go.Proofs.YtehlhobogpgaaaaDoor
open Go.RowKit Go.Extern.Stop Go.Stop Go.Extern

/-! ### type assertions -/
theorem Tryd.unwrapS (v : Value) (xT : TypeId) (w : World) : (Instr.typeAssert (.iface 43 v) xT 87 true).run Tryd.prog w = .ok (.tuple #[.nilIface, .bool false]) w :=
  run_typeAssert_lacksB Tryd.underlying87 (by kernel_rfl) (by kernel_rfl) v xT w
theorem Tryd.unwrapF (v : Value) (xT : TypeId) (w : World) : (Instr.typeAssert (.iface 73 v) xT 87 true).run Tryd.prog w = .ok (.tuple #[.iface 73 v, .bool true]) w :=
  run_typeAssert_hasB Tryd.underlying87 (by kernel_rfl) v xT w
theorem Tryd.unwrapW (v : Value) (xT : TypeId) (w : World) : (Instr.typeAssert (.iface 97 v) xT 87 true).run Tryd.prog w = .ok (.tuple #[.iface 97 v, .bool true]) w :=
  run_typeAssert_hasB Tryd.underlying87 (by kernel_rfl) v xT w

theorem unwrap_status (v : Value) (w : World) :
    Calls Tryd.prog 54 #[.iface 43 v] w fun e w' => e = .returned .nilIface ∧ w = w' := by
  have h1 := Tryd.unwrapS
  go_enter Tryd.func54, Tryd.ntmps54
  go_wp2
  go_ret
  exact ⟨rfl, rfl⟩

/-! ### methods -/
theorem Tryd.mUnwrapF (v : Value) (w : World) : (Go.method 254 73 v "Unwrap").run Tryd.prog w = .ok (89, v) w := by kernel_rfl
theorem Tryd.mUnwrapW (v : Value) (w : World) : (Go.method 254 97 v "Unwrap").run Tryd.prog w = .ok (102, v) w := by kernel_rfl
theorem Tryd.mErrorF (v : Value) (w : World) : (Go.method 254 73 v "Error").run Tryd.prog w = .ok (88, v) w := by kernel_rfl
theorem Tryd.mErrorW (v : Value) (w : World) : (Go.method 254 97 v "Error").run Tryd.prog w = .ok (101, v) w := by kernel_rfl
theorem Tryd.mErrorS (v : Value) (w : World) : (Go.method 254 43 v "Error").run Tryd.prog w = .ok (87, v) w := by kernel_rfl

/-! ### the methods Unwrap -/
theorem unwrapF_any (s n : Int) (w : World) :
    Calls Tryd.prog 89 #[.agg #[.int .i64 s, .int .i64 n]] w fun e w' => e = .returned (.iface 43 (.int .i64 s)) ∧ w' = w.alloc (.cells #[.int .i64 s, .int .i64 n] 73) := by
  go_enter Tryd.func89, Tryd.ntmps89
  go_wp2
  go_ret
  exact ⟨rfl, rfl⟩
theorem unwrapW_any (b : Nat) (inner : Value) (w : World) (hc : w.cell? ⟨b, 1, none⟩ = some inner) :
    Calls Tryd.prog 102 #[.pointer (some ⟨b, 0, none⟩)] w fun e w' => e = .returned inner ∧ w = w' := by
  go_enter Tryd.func102, Tryd.ntmps102
  go_wp2
  go_ret
  exact ⟨rfl, rfl⟩

/-! ### errors.Unwrap -/
set_option maxRecDepth 100000 in
theorem unwrap_fault (s n : Int) (w : World) :
    Calls Tryd.prog 54 #[.iface 73 (.agg #[.int .i64 s, .int .i64 n])] w fun e w' => e = .returned (.iface 43 (.int .i64 s)) ∧ w' = w.alloc (.cells #[.int .i64 s, .int .i64 n] 73) := by
  have h1 := Tryd.unwrapF
  have h2 := Tryd.mUnwrapF
  go_enter Tryd.func54, Tryd.ntmps54
  go_wp2_with (go_at_call 89; refine (unwrapF_any _ _ _).mono ?_; rintro e w' ⟨rfl, rfl⟩)
  go_ret
  exact ⟨rfl, rfl⟩
set_option maxRecDepth 100000 in
theorem unwrap_wrapped (b : Nat) (inner : Value) (w : World) (hc : w.cell? ⟨b, 1, none⟩ = some inner) :
    Calls Tryd.prog 54 #[.iface 97 (.pointer (some ⟨b, 0, none⟩))] w fun e w' => e = .returned inner ∧ w = w' := by
  have h1 := Tryd.unwrapW
  have h2 := Tryd.mUnwrapW
  go_enter Tryd.func54, Tryd.ntmps54
  go_wp2_with (go_at_call 102; refine (unwrapW_any _ _ _ hc).mono ?_; rintro e w' ⟨rfl, rfl⟩)
  go_ret
  exact ⟨rfl, rfl⟩
end Go.Proofs.YtehlhobogpgaaaaDoor
