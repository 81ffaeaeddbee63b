/- Errors of package fault: '==' between errors, and the contracts of errors.Is. -/
import Derived.Test.YtehlhobogpgaaaaDoorErrG
namespace Go.Proofs.YtehlhobogpgaaaaDoor
open Go.RowKit Go.Extern.Stop Go.Stop Go.Extern

theorem Tryd.isS (v : Value) (xT : TypeId) (w : World) : (Instr.typeAssert (.iface 43 v) xT 84 true).run Tryd.prog w = .ok (.tuple #[.nilIface, .bool false]) w :=
  run_typeAssert_lacksB Tryd.underlying84 (by kernel_rfl) (by kernel_rfl) v xT w
theorem Tryd.isF (v : Value) (xT : TypeId) (w : World) : (Instr.typeAssert (.iface 73 v) xT 84 true).run Tryd.prog w = .ok (.tuple #[.nilIface, .bool false]) w :=
  run_typeAssert_lacksB Tryd.underlying84 (by kernel_rfl) (by kernel_rfl) v xT w
theorem Tryd.isW (v : Value) (xT : TypeId) (w : World) : (Instr.typeAssert (.iface 97 v) xT 84 true).run Tryd.prog w = .ok (.tuple #[.nilIface, .bool false]) w :=
  run_typeAssert_lacksB Tryd.underlying84 (by kernel_rfl) (by kernel_rfl) v xT w
theorem Tryd.comparableF (w : World) : (ReflectliteType.method (fun t => do Rtype.noPackHeld "Comparable" t; (fun a : TypeInfo => Value.bool a.comparable) <$> typeInfo t) #[.agg #[.pointer (some ⟨3, 73, none⟩)]]).run Tryd.prog w = .ok (.bool true) w := by kernel_rfl
theorem Tryd.comparableS (w : World) : (ReflectliteType.method (fun t => do Rtype.noPackHeld "Comparable" t; (fun a : TypeInfo => Value.bool a.comparable) <$> typeInfo t) #[.agg #[.pointer (some ⟨3, 43, none⟩)]]).run Tryd.prog w = .ok (.bool true) w := by kernel_rfl

theorem Tryd.eqWF (x y : Value) (w : World) : (binOp .eql 26 (.iface 97 x) (.iface 73 y)).run Tryd.prog w = .ok (.bool false) w := run_eql_iface_types 97 73 x y Tryd.underlying26 (by decide) w
theorem Tryd.eqWS (x y : Value) (w : World) : (binOp .eql 26 (.iface 97 x) (.iface 43 y)).run Tryd.prog w = .ok (.bool false) w := run_eql_iface_types 97 43 x y Tryd.underlying26 (by decide) w
theorem Tryd.eqFS (x y : Value) (w : World) : (binOp .eql 26 (.iface 73 x) (.iface 43 y)).run Tryd.prog w = .ok (.bool false) w := run_eql_iface_types 73 43 x y Tryd.underlying26 (by decide) w
theorem Tryd.infoC (t : TypeId) (h : (Tryd.prog.info? t).map (·.comparable) = some true) : ∃ i, Tryd.prog.info? t = some i ∧ i.comparable = true := Option.map_eq_some_iff.1 h
theorem Tryd.equalS (d : Nat) (a b : Int) (w : World) : (Op.equalIn (d + 1) 43 (.int .i64 a) (.int .i64 b)).run Tryd.prog w = .ok (a == b) w := by
  simp [Op.equalIn, run_underlying Tryd.underlying43]
theorem Tryd.equalI (d : Nat) (a b : Int) (w : World) : (Op.equalIn (d + 1) 3 (.int .i64 a) (.int .i64 b)).run Tryd.prog w = .ok (a == b) w := by
  simp [Op.equalIn, run_underlying Tryd.underlying3]
theorem Tryd.equalF (d : Nat) (a b : Int) (w : World) : (Op.equalIn (d + 2) 73 (.agg #[.int .i64 a, .int .i64 b]) (.agg #[.int .i64 a, .int .i64 b])).run Tryd.prog w = .ok true w := by
  have h1 := Tryd.equalS d a a
  have h2 := Tryd.equalI d b b
  have p1 : ∀ w, (part 43 #[.int .i64 a, .int .i64 b] 0).run Tryd.prog w = .ok (.int .i64 a) w := fun w => by kernel_rfl
  have p2 : ∀ w, (part 3 #[.int .i64 a, .int .i64 b] 1).run Tryd.prog w = .ok (.int .i64 b) w := fun w => by kernel_rfl
  rw [show d + 2 = (d + 1) + 1 from rfl, Op.equalIn.eq_def]
  simp [run_underlying Tryd.underlying73, h1, h2, p1, p2]
theorem Tryd.eqSS (a b : Int) (w : World) : (binOp .eql 26 (.iface 43 (.int .i64 a)) (.iface 43 (.int .i64 b))).run Tryd.prog w = .ok (.bool (a == b)) w := by
  obtain ⟨i, hi, hcmp⟩ := Tryd.infoC 43 (by kernel_rfl)
  have h1 := fun d => Tryd.equalS d a b w
  have h : ∀ d : Nat, (Op.equalIn (d + 2) 26 (.iface 43 (.int .i64 a)) (.iface 43 (.int .i64 b))).run Tryd.prog w = .ok (a == b) w := by
    intro d
    rw [show d + 2 = (d + 1) + 1 from rfl, Op.equalIn.eq_def]
    simp [run_underlying Tryd.underlying26, typeInfo, hi, hcmp, h1]
  simp only [binOp]
  simp [Op.equal, Op.maxDepth, h 9998]
theorem Tryd.eqFF (a b : Int) (w : World) : (binOp .eql 26 (.iface 73 (.agg #[.int .i64 a, .int .i64 b])) (.iface 73 (.agg #[.int .i64 a, .int .i64 b]))).run Tryd.prog w = .ok (.bool true) w := by
  obtain ⟨i, hi, hcmp⟩ := Tryd.infoC 73 (by kernel_rfl)
  have h1 := fun d => Tryd.equalF d a b w
  have h : ∀ d : Nat, (Op.equalIn (d + 3) 26 (.iface 73 (.agg #[.int .i64 a, .int .i64 b])) (.iface 73 (.agg #[.int .i64 a, .int .i64 b]))).run Tryd.prog w = .ok true w := by
    intro d
    rw [show d + 3 = (d + 2) + 1 from rfl, Op.equalIn.eq_def]
    simp [run_underlying Tryd.underlying26, typeInfo, hi, hcmp, h1]
  simp only [binOp]
  simp [Op.equal, Op.maxDepth, h 9997]

theorem is_nil (v t : Value) (w : World) (T : TypeId) (hv : v = .iface T t) :
    Calls Tryd.prog 18 #[.nilIface, v] w fun e w' => e = .returned (.bool false) ∧ w = w' := by
  subst hv
  have hq : ∀ w, (binOp .eql 26 .nilIface (.iface T t)).run Tryd.prog w = .ok (.bool false) w := fun w => run_eql_iface_nil_left w T t Tryd.underlying26
  go_enter Tryd.func18, Tryd.ntmps18
  go_wp2
  go_ret
  exact ⟨rfl, rfl⟩
end Go.Proofs.YtehlhobogpgaaaaDoor
