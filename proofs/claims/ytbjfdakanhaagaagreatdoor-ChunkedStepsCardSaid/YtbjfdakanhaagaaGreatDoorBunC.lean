/- Merged texts: FltA, FltB, FltC, FltD, FltE, FltF, FltG, FltH, FltI, FltJ, FltK. -/
import Derived.Test.YtbjfdakanhaagaaGreatDoorProg
import Derived.WalkKit
import Derived.LaidEql
import Derived.Stop.Asserts
import Derived.RowKitTokens
import Derived.Outline
import Derived.Lib.Hide
import Derived.Deep.LoopGhost
import Derived.Laws.Cells
import Derived.Defers
import Derived.Recover
/-! ## FltA -/
/- Errors of package fault: closed facts on their dynamic types, and the contracts of Unwrap and of errors.Unwrap. -/
namespace Go.Proofs.YtbjfdakanhaagaaGreatDoor
open Go.RowKit Go.Extern.Stop Go.Stop Go.Extern

/-! ### type assertions -/
theorem Tryz.unwrapS (v : Value) (xT : TypeId) (w : World) : (Instr.typeAssert (.iface 49 v) xT 100 true).run Tryz.prog w = .ok (.tuple #[.nilIface, .bool false]) w :=
  run_typeAssert_lacksB Tryz.underlying100 (by kernel_rfl) (by kernel_rfl) v xT w
theorem Tryz.unwrapF (v : Value) (xT : TypeId) (w : World) : (Instr.typeAssert (.iface 77 v) xT 100 true).run Tryz.prog w = .ok (.tuple #[.iface 77 v, .bool true]) w :=
  run_typeAssert_hasB Tryz.underlying100 (by kernel_rfl) v xT w
theorem unwrap_status (v : Value) (w : World) :
    Calls Tryz.prog 51 #[.iface 49 v] w fun e w' => e = .returned .nilIface ∧ w = w' := by
  have h1 := Tryz.unwrapS
  go_enter Tryz.func51, Tryz.ntmps51
  go_wp2
  go_ret
  exact ⟨rfl, rfl⟩

/-! ### methods -/
theorem Tryz.mUnwrapF (v : Value) (w : World) : (Go.method 304 77 v "Unwrap").run Tryz.prog w = .ok (145, v) w := by kernel_rfl
theorem Tryz.mErrorF (v : Value) (w : World) : (Go.method 304 77 v "Error").run Tryz.prog w = .ok (144, v) w := by kernel_rfl
theorem Tryz.mErrorS (v : Value) (w : World) : (Go.method 304 49 v "Error").run Tryz.prog w = .ok (143, v) w := by kernel_rfl

/-! ### the methods Unwrap -/
theorem unwrapF_any (s n : Int) (w : World) :
    Calls Tryz.prog 145 #[.agg #[.int .i64 s, .int .i64 n]] w fun e w' => e = .returned (.iface 49 (.int .i64 s)) ∧ w' = w.alloc (.cells #[.int .i64 s, .int .i64 n] 77) := by
  go_enter Tryz.func145, Tryz.ntmps145
  go_wp2
  go_ret
  exact ⟨rfl, rfl⟩
/-! ### errors.Unwrap -/
set_option maxRecDepth 100000 in
theorem unwrap_fault (s n : Int) (w : World) :
    Calls Tryz.prog 51 #[.iface 77 (.agg #[.int .i64 s, .int .i64 n])] w fun e w' => e = .returned (.iface 49 (.int .i64 s)) ∧ w' = w.alloc (.cells #[.int .i64 s, .int .i64 n] 77) := by
  have h1 := Tryz.unwrapF
  have h2 := Tryz.mUnwrapF
  go_enter Tryz.func51, Tryz.ntmps51
  go_wp2_with (go_at_call 145; refine (unwrapF_any _ _ _).mono ?_; rintro e w' ⟨rfl, rfl⟩)
  go_ret
  exact ⟨rfl, rfl⟩
end Go.Proofs.YtbjfdakanhaagaaGreatDoor

/-! ## FltB -/
/- Errors of package fault: chains, and the contract of fault.ends. -/
namespace Go.Proofs.YtbjfdakanhaagaaGreatDoor
open Go.RowKit Go.Extern.Stop Go.Stop Go.Extern

/-- An error value: here a chain is its base alone. -/
def Chn (_w : World) (ps : List ByteArray) (base v : Value) : Prop := ps = [] ∧ v = base
theorem block_of_cell {w : World} {b o : Nat} {v : Value} (h : w.cell? ⟨b, o, none⟩ = some v) : b < w.heap.size := by
  rcases Nat.lt_or_ge b w.heap.size with h' | h'
  · exact h'
  · simp [World.cell?, Array.getElem?_eq_none h'] at h
theorem Chn.below {w w' : World} (_hb : Below w.heap.size w w') {ps : List ByteArray} {base v : Value} (h : Chn w ps base v) : Chn w' ps base v := h
theorem Chn.one (w : World) (base : Value) : Chn w [] base base := ⟨rfl, rfl⟩
def baseS (s : Int) : Value := .iface 49 (.int .i64 s)
def baseF (s n : Int) : Value := .iface 77 (.agg #[.int .i64 s, .int .i64 n])
/-- How many errors a chain has: nil, a status, a fault with its status. -/
def Lnk : Nat → World → Value → Prop
  | 0, _, v => v = .nilIface
  | k + 1, _, v => (k = 0 ∧ ∃ s, v = .iface 49 (.int .i64 s)) ∨ (k = 1 ∧ ∃ s n, v = .iface 77 (.agg #[.int .i64 s, .int .i64 n]))
theorem Lnk.below {w w' : World} (_hb : Below w.heap.size w w') : ∀ {k : Nat} {v : Value}, Lnk k w v → Lnk k w' v
  | 0, _, h => h
  | _ + 1, _, h => h
theorem Lnk.ofS {w : World} {s : Int} {ps : List ByteArray} {v : Value} (h : Chn w ps (baseS s) v) : Lnk (ps.length + 1) w v := by
  obtain ⟨rfl, rfl⟩ := h; exact .inl ⟨rfl, s, rfl⟩
theorem Lnk.ofF {w : World} {s n : Int} {ps : List ByteArray} {v : Value} (h : Chn w ps (baseF s n) v) : Lnk (ps.length + 2) w v := by
  obtain ⟨rfl, rfl⟩ := h; exact .inr ⟨rfl, s, n, rfl⟩

theorem Tryz.eqNil (v : Value) (t : TypeId) (w : World) : (binOp .eql 28 (.iface t v) .nilIface).run Tryz.prog w = .ok (.bool false) w :=
  run_eql_held_nil w 28 t v (by kernel_rfl)

def TrueBelow (w : World) (e : Ending) (w' : World) : Prop := e = .returned (.bool true) ∧ Below w.heap.size w w'

set_option maxRecDepth 100000 in
set_option maxHeartbeats 1000000 in
theorem ends_any (k : Nat) (v : Value) (w : World) (hk : k ≤ 1000) (hl : Lnk k w v) :
    Calls Tryz.prog 50 #[v] w (TrueBelow w) := by
  have hq := Tryz.eqNil
  go_enter Tryz.func50, Tryz.ntmps50
  go_wp2
  go_loopg [0, 3] k (fun k v i wr => Lnk k wr v ∧ Below w.heap.size w wr ∧ ∃ j : Nat, i = .int .i64 j ∧ j + k ≤ 1000)
  case atStart => exact ⟨hl, Below.refl _ _, 0, rfl, by omega⟩
  case round =>
    obtain ⟨hl, hb, j, rfl, hj⟩ := hrel
    have hlt : ((j : Int) < 1048576) = True := by simp only [eq_iff_iff, iff_true]; omega
    rcases gk with _ | k
    · obtain rfl := hl
      go_wp2
      go_ret
      exact ⟨rfl, hb⟩
    · rcases hl with ⟨rfl, s, rfl⟩ | ⟨rfl, s, n, rfl⟩
      · go_wp2_with (go_at_call 51; refine (unwrap_status _ _).mono ?_; rintro e w' ⟨rfl, rfl⟩)
        go_roundg 0
        case measure => omega
        case rel => exact ⟨rfl, hb, j + 1, by go_num, by omega⟩
      · go_wp2_with (go_at_call 51; refine (unwrap_fault _ _ _).mono ?_; rintro e w' ⟨rfl, rfl⟩)
        go_roundg 1
        case measure => omega
        case rel => exact ⟨.inl ⟨rfl, s, rfl⟩, hb.alloc hb.size _, j + 1, by go_num, by omega⟩
end Go.Proofs.YtbjfdakanhaagaaGreatDoor

/-! ## FltC -/
/- Errors of package fault: closed facts on package internal/reflectlite at the types that errors.As meets, and the contract of errors.as. -/
namespace Go.Proofs.YtbjfdakanhaagaaGreatDoor
open Go.RowKit Go.Extern.Stop Go.Stop Go.Extern

theorem Tryz.methodKind (h : Value) (w : World) : (Go.method 304 95 (.agg #[h]) "Kind").run Tryz.prog w = .ok (140, h) w := by kernel_rfl
theorem Tryz.methodElem (h : Value) (w : World) : (Go.method 304 95 (.agg #[h]) "Elem").run Tryz.prog w = .ok (149, .agg #[h]) w := by kernel_rfl
theorem Tryz.methodImplements (h : Value) (w : World) : (Go.method 304 95 (.agg #[h]) "Implements").run Tryz.prog w = .ok (150, .agg #[h]) w := by kernel_rfl
theorem Tryz.methodAssignableTo (h : Value) (w : World) : (Go.method 304 95 (.agg #[h]) "AssignableTo").run Tryz.prog w = .ok (147, .agg #[h]) w := by kernel_rfl
theorem Tryz.methodComparable (h : Value) (w : World) : (Go.method 304 95 (.agg #[h]) "Comparable").run Tryz.prog w = .ok (148, .agg #[h]) w := by kernel_rfl

theorem Tryz.typeOfF (v : Value) (w : World) : (ReflectliteType.typeOf #[.iface 77 v]).run Tryz.prog w = .ok (.iface 95 (.agg #[.pointer (some ⟨7, 77, none⟩)])) w := by kernel_rfl
theorem Tryz.assignableFF (w : World) : (ReflectliteType.relation "AssignableTo" ReflectliteType.assignableTo #[.agg #[.pointer (some ⟨7, 77, none⟩)], .iface 95 (.agg #[.pointer (some ⟨7, 77, none⟩)])]).run Tryz.prog w = .ok (.bool true) w := by kernel_rfl
theorem Tryz.assignableFS (w : World) : (ReflectliteType.relation "AssignableTo" ReflectliteType.assignableTo #[.agg #[.pointer (some ⟨7, 77, none⟩)], .iface 95 (.agg #[.pointer (some ⟨7, 49, none⟩)])]).run Tryz.prog w = .ok (.bool false) w := by kernel_rfl

theorem Tryz.typeOfS (v : Value) (w : World) : (ReflectliteType.typeOf #[.iface 49 v]).run Tryz.prog w = .ok (.iface 95 (.agg #[.pointer (some ⟨7, 49, none⟩)])) w := by kernel_rfl
theorem Tryz.assignableSF (w : World) : (ReflectliteType.relation "AssignableTo" ReflectliteType.assignableTo #[.agg #[.pointer (some ⟨7, 49, none⟩)], .iface 95 (.agg #[.pointer (some ⟨7, 77, none⟩)])]).run Tryz.prog w = .ok (.bool false) w := by kernel_rfl
theorem Tryz.assignableSS (w : World) : (ReflectliteType.relation "AssignableTo" ReflectliteType.assignableTo #[.agg #[.pointer (some ⟨7, 49, none⟩)], .iface 95 (.agg #[.pointer (some ⟨7, 49, none⟩)])]).run Tryz.prog w = .ok (.bool true) w := by kernel_rfl

/-! ### the target *doorkeeper/api.Fault -/
theorem Tryz.valueOfPF (t : Addr) (w : World) : (ReflectliteValue.unpack (.iface 108 (.pointer (some t)))).run Tryz.prog w
    = .ok (.agg #[.pointer (some ⟨7, 108, none⟩), .pointer (some ⟨w.heap.size, 0, none⟩), .int .u64 150]) (w.alloc (.cells #[.pointer (some t)] 108)) := by kernel_rfl
theorem Tryz.typePF (a : Addr) (w : World) : (ReflectliteValue.methodAny (ReflectliteValue.valueError "reflectlite.Value.Type" 0) (fun t _ _ _ => ReflectliteType.toType t) #[.agg #[.pointer (some ⟨7, 108, none⟩), .pointer (some a), .int .u64 150]]).run Tryz.prog w
    = .ok (.iface 95 (.agg #[.pointer (some ⟨7, 108, none⟩)])) w := by kernel_rfl
theorem Tryz.kindPF (w : World) : ((ReflectliteType.abiMethod fun t => (fun a : Nat => Value.int IntKind.u8 (a : Int)) <$> Rtype.kind t) #[.pointer (some ⟨7, 108, none⟩)]).run Tryz.prog w = .ok (.int .u8 22) w := by kernel_rfl
theorem Tryz.kindEF (w : World) : ((ReflectliteType.abiMethod fun t => (fun a : Nat => Value.int IntKind.u8 (a : Int)) <$> Rtype.kind t) #[.pointer (some ⟨7, 77, none⟩)]).run Tryz.prog w = .ok (.int .u8 25) w := by kernel_rfl
theorem Tryz.partsPF (a : Addr) (w : World) : (ReflectliteValue.parts (.agg #[.pointer (some ⟨7, 108, none⟩), .pointer (some a), .int .u64 150])).run Tryz.prog w = .ok (some (108, a, 150)) w := by kernel_rfl
theorem Tryz.isNilPF (a p : Addr) (W : World) (ha : W.cell? a = some (.pointer (some p))) :
    (ReflectliteValue.method (ReflectliteValue.valueError "reflectlite.Value.IsNil" 0) ReflectliteValue.isNil #[.agg #[.pointer (some ⟨7, 108, none⟩), .pointer (some a), .int .u64 150]]).run Tryz.prog W = .ok (.bool false) W := by
  show (ReflectliteValue.parts (.agg #[.pointer (some ⟨7, 108, none⟩), .pointer (some a), .int .u64 150]) >>= _ : Sem Value).run Tryz.prog W = _
  simp only [Sem.run_bind, Tryz.partsPF, Result.andThen]
  simp [ReflectliteValue.isNil, loadVar, isAgg, underlying, Tryz.underlying108, ha, Result.andThen]
theorem Tryz.elemPF (w : World) : (ReflectliteType.method ReflectliteType.elem #[.agg #[.pointer (some ⟨7, 108, none⟩)]]).run Tryz.prog w = .ok (.iface 95 (.agg #[.pointer (some ⟨7, 77, none⟩)])) w := by kernel_rfl
theorem Tryz.implementsEF (w : World) : (ReflectliteType.relation "Implements" ReflectliteType.implements_ #[.agg #[.pointer (some ⟨7, 77, none⟩)], .iface 95 (.agg #[.pointer (some ⟨7, 28, none⟩)])]).run Tryz.prog w = .ok (.bool true) w := by kernel_rfl
theorem Tryz.valueOfEF (s n : Int) (w : World) : (ReflectliteValue.unpack (.iface 77 (.agg #[.int .i64 s, .int .i64 n]))).run Tryz.prog w
    = .ok (.agg #[.pointer (some ⟨7, 77, none⟩), .pointer (some ⟨w.heap.size, 0, none⟩), .int .u64 153]) (w.alloc (.cells #[.int .i64 s, .int .i64 n] 77)) := by kernel_rfl
theorem Tryz.elemOfPF (w : World) : (Rtype.elem? 108).run Tryz.prog w = .ok (some 77) w := by kernel_rfl
theorem Tryz.mkEF (p : Addr) (w : World) : (ReflectliteValue.mk 77 p ReflectliteValue.flagAddr).run Tryz.prog w = .ok (.agg #[.pointer (some ⟨7, 77, none⟩), .pointer (some p), .int .u64 409]) w := by kernel_rfl
theorem Tryz.elemVPF (a p : Addr) (W : World) (ha : W.cell? a = some (.pointer (some p))) :
    (ReflectliteValue.method (ReflectliteValue.valueError "reflectlite.Value.Elem" 0) ReflectliteValue.elem #[.agg #[.pointer (some ⟨7, 108, none⟩), .pointer (some a), .int .u64 150]]).run Tryz.prog W
      = .ok (.agg #[.pointer (some ⟨7, 77, none⟩), .pointer (some p), .int .u64 409]) W := by
  show (ReflectliteValue.parts (.agg #[.pointer (some ⟨7, 108, none⟩), .pointer (some a), .int .u64 150]) >>= _ : Sem Value).run Tryz.prog W = _
  simp only [Sem.run_bind, Tryz.partsPF, Result.andThen]
  simp [ReflectliteValue.elem, loadVar, isAgg, underlying, Tryz.underlying108, ha, Result.andThen, Tryz.elemOfPF, Tryz.mkEF]
theorem Tryz.partsEaF (a : Addr) (w : World) : (ReflectliteValue.parts (.agg #[.pointer (some ⟨7, 77, none⟩), .pointer (some a), .int .u64 409])).run Tryz.prog w = .ok (some (77, a, 409)) w := by kernel_rfl
theorem Tryz.partsEF (a : Addr) (w : World) : (ReflectliteValue.parts (.agg #[.pointer (some ⟨7, 77, none⟩), .pointer (some a), .int .u64 153])).run Tryz.prog w = .ok (some (77, a, 153)) w := by kernel_rfl
theorem Tryz.directEF (w : World) : (Rtype.directlyAssignable 77 77).run Tryz.prog w = .ok true w := by kernel_rfl

/-! ### the target *doorkeeper/api.Status -/
theorem Tryz.valueOfPS (t : Addr) (w : World) : (ReflectliteValue.unpack (.iface 92 (.pointer (some t)))).run Tryz.prog w
    = .ok (.agg #[.pointer (some ⟨7, 92, none⟩), .pointer (some ⟨w.heap.size, 0, none⟩), .int .u64 150]) (w.alloc (.cells #[.pointer (some t)] 92)) := by kernel_rfl
theorem Tryz.typePS (a : Addr) (w : World) : (ReflectliteValue.methodAny (ReflectliteValue.valueError "reflectlite.Value.Type" 0) (fun t _ _ _ => ReflectliteType.toType t) #[.agg #[.pointer (some ⟨7, 92, none⟩), .pointer (some a), .int .u64 150]]).run Tryz.prog w
    = .ok (.iface 95 (.agg #[.pointer (some ⟨7, 92, none⟩)])) w := by kernel_rfl
theorem Tryz.kindPS (w : World) : ((ReflectliteType.abiMethod fun t => (fun a : Nat => Value.int IntKind.u8 (a : Int)) <$> Rtype.kind t) #[.pointer (some ⟨7, 92, none⟩)]).run Tryz.prog w = .ok (.int .u8 22) w := by kernel_rfl
theorem Tryz.kindES (w : World) : ((ReflectliteType.abiMethod fun t => (fun a : Nat => Value.int IntKind.u8 (a : Int)) <$> Rtype.kind t) #[.pointer (some ⟨7, 49, none⟩)]).run Tryz.prog w = .ok (.int .u8 2) w := by kernel_rfl
theorem Tryz.partsPS (a : Addr) (w : World) : (ReflectliteValue.parts (.agg #[.pointer (some ⟨7, 92, none⟩), .pointer (some a), .int .u64 150])).run Tryz.prog w = .ok (some (92, a, 150)) w := by kernel_rfl
theorem Tryz.isNilPS (a p : Addr) (W : World) (ha : W.cell? a = some (.pointer (some p))) :
    (ReflectliteValue.method (ReflectliteValue.valueError "reflectlite.Value.IsNil" 0) ReflectliteValue.isNil #[.agg #[.pointer (some ⟨7, 92, none⟩), .pointer (some a), .int .u64 150]]).run Tryz.prog W = .ok (.bool false) W := by
  show (ReflectliteValue.parts (.agg #[.pointer (some ⟨7, 92, none⟩), .pointer (some a), .int .u64 150]) >>= _ : Sem Value).run Tryz.prog W = _
  simp only [Sem.run_bind, Tryz.partsPS, Result.andThen]
  simp [ReflectliteValue.isNil, loadVar, isAgg, underlying, Tryz.underlying92, ha, Result.andThen]
theorem Tryz.elemPS (w : World) : (ReflectliteType.method ReflectliteType.elem #[.agg #[.pointer (some ⟨7, 92, none⟩)]]).run Tryz.prog w = .ok (.iface 95 (.agg #[.pointer (some ⟨7, 49, none⟩)])) w := by kernel_rfl
theorem Tryz.implementsES (w : World) : (ReflectliteType.relation "Implements" ReflectliteType.implements_ #[.agg #[.pointer (some ⟨7, 49, none⟩)], .iface 95 (.agg #[.pointer (some ⟨7, 28, none⟩)])]).run Tryz.prog w = .ok (.bool true) w := by kernel_rfl
theorem Tryz.valueOfES (s : Int) (w : World) : (ReflectliteValue.unpack (.iface 49 (.int .i64 s))).run Tryz.prog w
    = .ok (.agg #[.pointer (some ⟨7, 49, none⟩), .pointer (some ⟨w.heap.size, 0, none⟩), .int .u64 130]) (w.alloc (.cells #[.int .i64 s] 49)) := by kernel_rfl
theorem Tryz.elemOfPS (w : World) : (Rtype.elem? 92).run Tryz.prog w = .ok (some 49) w := by kernel_rfl
theorem Tryz.mkES (p : Addr) (w : World) : (ReflectliteValue.mk 49 p ReflectliteValue.flagAddr).run Tryz.prog w = .ok (.agg #[.pointer (some ⟨7, 49, none⟩), .pointer (some p), .int .u64 386]) w := by kernel_rfl
theorem Tryz.elemVPS (a p : Addr) (W : World) (ha : W.cell? a = some (.pointer (some p))) :
    (ReflectliteValue.method (ReflectliteValue.valueError "reflectlite.Value.Elem" 0) ReflectliteValue.elem #[.agg #[.pointer (some ⟨7, 92, none⟩), .pointer (some a), .int .u64 150]]).run Tryz.prog W
      = .ok (.agg #[.pointer (some ⟨7, 49, none⟩), .pointer (some p), .int .u64 386]) W := by
  show (ReflectliteValue.parts (.agg #[.pointer (some ⟨7, 92, none⟩), .pointer (some a), .int .u64 150]) >>= _ : Sem Value).run Tryz.prog W = _
  simp only [Sem.run_bind, Tryz.partsPS, Result.andThen]
  simp [ReflectliteValue.elem, loadVar, isAgg, underlying, Tryz.underlying92, ha, Result.andThen, Tryz.elemOfPS, Tryz.mkES]
theorem Tryz.partsEaS (a : Addr) (w : World) : (ReflectliteValue.parts (.agg #[.pointer (some ⟨7, 49, none⟩), .pointer (some a), .int .u64 386])).run Tryz.prog w = .ok (some (49, a, 386)) w := by kernel_rfl
theorem Tryz.partsES (a : Addr) (w : World) : (ReflectliteValue.parts (.agg #[.pointer (some ⟨7, 49, none⟩), .pointer (some a), .int .u64 130])).run Tryz.prog w = .ok (some (49, a, 130)) w := by kernel_rfl
theorem Tryz.directES (w : World) : (Rtype.directlyAssignable 49 49).run Tryz.prog w = .ok true w := by kernel_rfl
end Go.Proofs.YtbjfdakanhaagaaGreatDoor

/-! ## FltD -/
/- Errors of package fault: reflectlite's Set at the two targets. -/
namespace Go.Proofs.YtbjfdakanhaagaaGreatDoor
open Go.RowKit Go.Extern.Stop Go.Stop Go.Extern

theorem Tryz.setES (ta b : Addr) (s : Int) (old : Value) (W : World) (hb : W.cell? b = some (.int .i64 s)) (ht : W.cell? ta = some old) (hf : W.frozen? ta = false) :
    (ReflectliteValue.set #[.agg #[.pointer (some ⟨7, 49, none⟩), .pointer (some ta), .int .u64 386], .agg #[.pointer (some ⟨7, 49, none⟩), .pointer (some b), .int .u64 130]]).run Tryz.prog W
      = .ok (.tuple #[]) (W.setCell ta (.int .i64 s)) := by
  show (ReflectliteValue.parts (.agg #[.pointer (some ⟨7, 49, none⟩), .pointer (some ta), .int .u64 386]) >>= fun y => ReflectliteValue.parts (.agg #[.pointer (some ⟨7, 49, none⟩), .pointer (some b), .int .u64 130]) >>= _ : Sem Value).run Tryz.prog W = _
  simp only [Sem.run_bind, Tryz.partsEaS, Tryz.partsES, Result.andThen]
  simp [ReflectliteValue.flagAddr, loadVar, isAgg, underlying, Tryz.underlying49, hb, Result.andThen, Tryz.directES, storeVar, Value.cells, storeCells, Addr.add]
  rw [run_store Tryz.prog W ta _ _ (by rfl)]
  simp [ht, hf]
theorem Tryz.setEF (ta b : Nat) (s n : Int) (o1 o2 : Value) (W : World) (hb : W.cell? ⟨b, 0, none⟩ = some (.int .i64 s)) (hb1 : W.cell? ⟨b, 1, none⟩ = some (.int .i64 n)) (ht : W.cell? ⟨ta, 0, none⟩ = some o1) (ht1 : W.cell? ⟨ta, 1, none⟩ = some o2) (hf : W.frozen? ⟨ta, 0, none⟩ = false) (hf1 : W.frozen? ⟨ta, 1, none⟩ = false) :
    (ReflectliteValue.set #[.agg #[.pointer (some ⟨7, 77, none⟩), .pointer (some ⟨ta, 0, none⟩), .int .u64 409], .agg #[.pointer (some ⟨7, 77, none⟩), .pointer (some ⟨b, 0, none⟩), .int .u64 153]]).run Tryz.prog W
      = .ok (.tuple #[]) ((W.setCell ⟨ta, 0, none⟩ (.int .i64 s)).setCell ⟨ta, 1, none⟩ (.int .i64 n)) := by
  have hl : (loadCells ⟨b, 0, none⟩ 2).run Tryz.prog W = .ok #[.int .i64 s, .int .i64 n] W := by
    refine run_loadCells_list (P := Tryz.prog) (w := W) ⟨b, 0, none⟩ [.int .i64 s, .int .i64 n] ?_
    intro j v hv
    rcases j with _ | _ | j
    · simp at hv; subst hv; simpa [Addr.add] using hb
    · simp at hv; subst hv; simpa [Addr.add] using hb1
    · simp at hv
  show (ReflectliteValue.parts (.agg #[.pointer (some ⟨7, 77, none⟩), .pointer (some ⟨ta, 0, none⟩), .int .u64 409]) >>= fun y => ReflectliteValue.parts (.agg #[.pointer (some ⟨7, 77, none⟩), .pointer (some ⟨b, 0, none⟩), .int .u64 153]) >>= _ : Sem Value).run Tryz.prog W = _
  simp only [Sem.run_bind, Tryz.partsEaF, Tryz.partsEF, Result.andThen]
  simp [ReflectliteValue.flagAddr, loadVar, isAgg, underlying, Tryz.underlying77, Result.andThen, Tryz.directEF, storeVar, Value.cells, storeCells, Addr.add, hl]
  rw [run_store Tryz.prog W ⟨ta, 0, none⟩ _ _ (by rfl)]
  simp only [ht, hf]
  have h1 : (W.setCell ⟨ta, 0, none⟩ (.int .i64 s)).cell? ⟨ta, 1, none⟩ = some o2 := by rw [World.cell?_setCell_other _ _ _ _ (by simp)]; exact ht1
  have h2 : (W.setCell ⟨ta, 0, none⟩ (.int .i64 s)).frozen? ⟨ta, 1, none⟩ = false := by rw [World.frozen?_setCell]; exact hf1
  simp
  rw [run_store Tryz.prog _ ⟨ta, 1, none⟩ _ _ (by rfl)]
  simp [h1, h2]
end Go.Proofs.YtbjfdakanhaagaaGreatDoor

/-! ## FltE -/
/- Errors of package fault: the contracts of errors.as, at the targets *api.Fault and *api.Status. -/
namespace Go.Proofs.YtbjfdakanhaagaaGreatDoor
open Go.RowKit Go.Extern.Stop Go.Stop Go.Extern

theorem Tryz.asS (v : Value) (xT : TypeId) (w : World) : (Instr.typeAssert (.iface 49 v) xT 125 true).run Tryz.prog w = .ok (.tuple #[.nilIface, .bool false]) w :=
  run_typeAssert_lacksB Tryz.underlying125 (by kernel_rfl) (by kernel_rfl) v xT w
theorem Tryz.asF (v : Value) (xT : TypeId) (w : World) : (Instr.typeAssert (.iface 77 v) xT 125 true).run Tryz.prog w = .ok (.tuple #[.nilIface, .bool false]) w :=
  run_typeAssert_lacksB Tryz.underlying125 (by kernel_rfl) (by kernel_rfl) v xT w
theorem Tryz.unwrapsS (v : Value) (xT : TypeId) (w : World) : (Instr.typeAssert (.iface 49 v) xT 101 true).run Tryz.prog w = .ok (.tuple #[.nilIface, .bool false]) w :=
  run_typeAssert_lacksB Tryz.underlying101 (by kernel_rfl) (by kernel_rfl) v xT w

def ReturnsIn (b : Bool) (R : World → Prop) (e : Ending) (w' : World) : Prop := e = .returned (.bool b) ∧ R w'
/-- The world behind a hit: block tb is written, all else is as it was. -/
def Wrote (w : World) (tb : Nat) (cs : List Value) (w' : World) : Prop :=
  w.grownBy w' (some tb) ∧ (∀ o, w'.frozen? ⟨tb, o, none⟩ = w.frozen? ⟨tb, o, none⟩) ∧ ∀ j v, cs[j]? = some v → w'.cell? ⟨tb, j, none⟩ = some v

theorem Chn.iface {w : World} {base : Value} (hbase : ∃ t x, base = .iface t x) {ps : List ByteArray} {v : Value} (h : Chn w ps base v) : ∃ t x, v = .iface t x := by
  obtain ⟨t, x, rfl⟩ := hbase; exact ⟨t, x, h.2⟩
theorem wrote1 {w W : World} {tb : Nat} {x o1 : Value} (hb : Below w.heap.size w W) (ht : w.cell? ⟨tb, 0, none⟩ = some o1) : Wrote w tb [x] (W.setCell ⟨tb, 0, none⟩ x) := by
  have h0 : W.cell? ⟨tb, 0, none⟩ = some o1 := by rw [hb.cell (p := ⟨tb, 0, none⟩) (block_of_cell ht)]; exact ht
  refine ⟨⟨hb.os, hb.tape, hb.output, by simpa using hb.size, fun k hk hne => ?_⟩, fun o => ?_, fun j v hv => ?_⟩
  · rw [Below.heap_setCell _ _ _ _ (fun e => hne (by simp [e]))]; exact hb.block k hk
  · rw [World.frozen?_setCell, hb.frozen (p := ⟨tb, o, none⟩) (block_of_cell ht)]
  · rcases j with _ | j
    · simp at hv; subst hv; exact World.cell?_setCell_same _ _ _ h0
    · simp at hv
theorem wrote2 {w W : World} {tb : Nat} {x y o1 o2 : Value} (hb : Below w.heap.size w W) (ht : w.cell? ⟨tb, 0, none⟩ = some o1) (ht1 : w.cell? ⟨tb, 1, none⟩ = some o2) :
    Wrote w tb [x, y] ((W.setCell ⟨tb, 0, none⟩ x).setCell ⟨tb, 1, none⟩ y) := by
  have h0 : W.cell? ⟨tb, 0, none⟩ = some o1 := by rw [hb.cell (p := ⟨tb, 0, none⟩) (block_of_cell ht)]; exact ht
  have h1 : W.cell? ⟨tb, 1, none⟩ = some o2 := by rw [hb.cell (p := ⟨tb, 1, none⟩) (block_of_cell ht)]; exact ht1
  refine ⟨⟨hb.os, hb.tape, hb.output, by simpa using hb.size, fun k hk hne => ?_⟩, fun o => ?_, fun j v hv => ?_⟩
  · rw [Below.heap_setCell _ _ _ _ (fun e => hne (by simp [e])), Below.heap_setCell _ _ _ _ (fun e => hne (by simp [e]))]; exact hb.block k hk
  · rw [World.frozen?_setCell, World.frozen?_setCell, hb.frozen (p := ⟨tb, o, none⟩) (block_of_cell ht)]
  · rcases j with _ | _ | j
    · simp at hv; subst hv; rw [World.cell?_setCell_other _ _ _ _ (by simp)]; exact World.cell?_setCell_same _ _ _ h0
    · simp at hv; subst hv; exact World.cell?_setCell_same _ _ _ (by rw [World.cell?_setCell_other _ _ _ _ (by simp)]; exact h1)
    · simp at hv
theorem Wrote.alloc {w W : World} {tb : Nat} {cs : List Value} (h : Wrote w tb cs W) (htb : tb < w.heap.size) (o : Obj) : Wrote w tb cs (W.alloc o) := by
  obtain ⟨hg, hf, hcell⟩ := h
  have htW : tb < W.heap.size := Nat.lt_of_lt_of_le htb hg.size
  refine ⟨⟨hg.os, hg.tape, hg.output, by have := hg.size; simp; omega, fun k hk hne => ?_⟩, fun o' => ?_, fun j v hv => ?_⟩
  · rw [Below.heap_alloc _ _ _ (Nat.lt_of_lt_of_le hk hg.size)]; exact hg.block k hk hne
  · rw [World.frozen?_alloc_old _ _ ⟨tb, o', none⟩ (Nat.ne_of_lt htW)]; exact hf o'
  · rw [World.cell?_alloc_lt _ _ ⟨tb, j, none⟩ htW]; exact hcell j v hv
end Go.Proofs.YtbjfdakanhaagaaGreatDoor

/-! ## FltF -/
/- Errors of package fault: the contracts of errors.as, at the targets *api.Fault and *api.Status. -/
namespace Go.Proofs.YtbjfdakanhaagaaGreatDoor
open Go.RowKit Go.Extern.Stop Go.Stop Go.Extern

set_option maxRecDepth 100000 in
set_option maxHeartbeats 2000000 in
/-- errors.as at a fault, the target a fault: it is found. -/
theorem as_FF (ps : List ByteArray) (v : Value) (tb a : Nat) (s n : Int) (o1 o2 : Value) (w : World) (hc : Chn w ps (baseF s n) v)
    (ha : w.cell? ⟨a, 0, none⟩ = some (.pointer (some ⟨tb, 0, none⟩)))
    (ht : w.cell? ⟨tb, 0, none⟩ = some o1) (ht1 : w.cell? ⟨tb, 1, none⟩ = some o2) (hf : w.frozen? ⟨tb, 0, none⟩ = false) (hf1 : w.frozen? ⟨tb, 1, none⟩ = false) :
    Calls Tryz.prog 61 #[v, .iface 108 (.pointer (some ⟨tb, 0, none⟩)), .agg #[.pointer (some ⟨7, 108, none⟩), .pointer (some ⟨a, 0, none⟩), .int .u64 150], .iface 95 (.agg #[.pointer (some ⟨7, 77, none⟩)])] w (ReturnsIn true (Wrote w tb [.int .i64 s, .int .i64 n])) := by
  have h29 := @run_callFunc_extern Tryz.prog 58 _ (fun args => ReflectliteValue.unpack (args.getD 0 (.tuple #[]))) Tryz.func58 (by kernel_rfl) (by kernel_rfl) (by kernel_rfl) (by kernel_rfl)
  have h33 := @run_callFunc_extern Tryz.prog 33 _ ReflectliteType.typeOf Tryz.func33 (by kernel_rfl) (by kernel_rfl) (by kernel_rfl) (by kernel_rfl)
  have h80 := @run_callFunc_extern Tryz.prog 147 _ (ReflectliteType.relation "AssignableTo" ReflectliteType.assignableTo) Tryz.func147 (by kernel_rfl) (by kernel_rfl) (by kernel_rfl) (by kernel_rfl)
  have h39 := @run_callFunc_extern Tryz.prog 69 _ (ReflectliteValue.method (ReflectliteValue.valueError "reflectlite.Value.Elem" 0) ReflectliteValue.elem) Tryz.func69 (by kernel_rfl) (by kernel_rfl) (by kernel_rfl) (by kernel_rfl)
  have h40 := @run_callFunc_extern Tryz.prog 70 _ ReflectliteValue.set Tryz.func70 (by kernel_rfl) (by kernel_rfl) (by kernel_rfl) (by kernel_rfl)
  have mA := Tryz.methodAssignableTo
  have hq := Tryz.eqNil
  have e2 := Tryz.typeOfF
  have e4 := Tryz.assignableFF
  have e8 := Tryz.valueOfEF
  have hla := block_of_cell ha
  go_enter Tryz.func61, Tryz.ntmps61
  go_wp2
  go_loopg [0] ps.length (fun k v wr => wr = (w.alloc (.cells #[.pointer (some ⟨7, 108, none⟩), .pointer (some ⟨a, 0, none⟩), .int .u64 150] 113)) ∧ ∃ ps, k = List.length ps ∧ Chn w ps (baseF s n) v)
  case atStart => exact ⟨rfl, ps, rfl, hc⟩
  case round =>
    obtain ⟨rfl, ps, rfl, hc⟩ := hrel
    rcases ps with _ | ⟨p, ps⟩
    · obtain ⟨-, rfl⟩ := hc
      unfold baseF
      have b1 : Below w.heap.size w (w.alloc (.cells #[.pointer (some ⟨7, 108, none⟩), .pointer (some ⟨a, 0, none⟩), .int .u64 150] 113)) := (Below.refl _ _).alloc (Nat.le_refl _) _
      have b2 : Below w.heap.size w ((w.alloc (.cells #[.pointer (some ⟨7, 108, none⟩), .pointer (some ⟨a, 0, none⟩), .int .u64 150] 113)).alloc (.cells #[.int .i64 s, .int .i64 n] 77)) := b1.alloc b1.size _
      have hlt := block_of_cell ht
      have el := Tryz.elemVPF ⟨a, 0, none⟩ ⟨tb, 0, none⟩ (w.alloc (.cells #[.pointer (some ⟨7, 108, none⟩), .pointer (some ⟨a, 0, none⟩), .int .u64 150] 113)) (by rw [b1.cell (p := ⟨a, 0, none⟩) hla]; exact ha)
      have st := Tryz.setEF tb (w.heap.size + 1) s n o1 o2 ((w.alloc (.cells #[.pointer (some ⟨7, 108, none⟩), .pointer (some ⟨a, 0, none⟩), .int .u64 150] 113)).alloc (.cells #[.int .i64 s, .int .i64 n] 77)) (by rw [World.cell?_alloc_at _ _ _ _ (by simp)]; rfl) (by rw [World.cell?_alloc_at _ _ _ _ (by simp)]; rfl)
        (by rw [b2.cell (p := ⟨tb, 0, none⟩) hlt]; exact ht) (by rw [b2.cell (p := ⟨tb, 1, none⟩) hlt]; exact ht1) (by rw [b2.frozen (p := ⟨tb, 0, none⟩) hlt]; exact hf) (by rw [b2.frozen (p := ⟨tb, 1, none⟩) hlt]; exact hf1)
      go_wp2
      go_ret
      exact ⟨rfl, ((wrote2 (Below.refl _ _) ht ht1).alloc hlt _).alloc hlt _⟩
    · exact absurd hc.1 (by simp)


set_option maxRecDepth 100000 in
set_option maxHeartbeats 2000000 in
/-- errors.as at a status, the target a status: it is found. -/
theorem as_SS (ps : List ByteArray) (v : Value) (tb a : Nat) (s : Int) (o1 : Value) (w : World) (hc : Chn w ps (baseS s) v)
    (ha : w.cell? ⟨a, 0, none⟩ = some (.pointer (some ⟨tb, 0, none⟩)))
    (ht : w.cell? ⟨tb, 0, none⟩ = some o1) (hf : w.frozen? ⟨tb, 0, none⟩ = false) :
    Calls Tryz.prog 61 #[v, .iface 92 (.pointer (some ⟨tb, 0, none⟩)), .agg #[.pointer (some ⟨7, 92, none⟩), .pointer (some ⟨a, 0, none⟩), .int .u64 150], .iface 95 (.agg #[.pointer (some ⟨7, 49, none⟩)])] w (ReturnsIn true (Wrote w tb [.int .i64 s])) := by
  have h29 := @run_callFunc_extern Tryz.prog 58 _ (fun args => ReflectliteValue.unpack (args.getD 0 (.tuple #[]))) Tryz.func58 (by kernel_rfl) (by kernel_rfl) (by kernel_rfl) (by kernel_rfl)
  have h33 := @run_callFunc_extern Tryz.prog 33 _ ReflectliteType.typeOf Tryz.func33 (by kernel_rfl) (by kernel_rfl) (by kernel_rfl) (by kernel_rfl)
  have h80 := @run_callFunc_extern Tryz.prog 147 _ (ReflectliteType.relation "AssignableTo" ReflectliteType.assignableTo) Tryz.func147 (by kernel_rfl) (by kernel_rfl) (by kernel_rfl) (by kernel_rfl)
  have h39 := @run_callFunc_extern Tryz.prog 69 _ (ReflectliteValue.method (ReflectliteValue.valueError "reflectlite.Value.Elem" 0) ReflectliteValue.elem) Tryz.func69 (by kernel_rfl) (by kernel_rfl) (by kernel_rfl) (by kernel_rfl)
  have h40 := @run_callFunc_extern Tryz.prog 70 _ ReflectliteValue.set Tryz.func70 (by kernel_rfl) (by kernel_rfl) (by kernel_rfl) (by kernel_rfl)
  have mA := Tryz.methodAssignableTo
  have hq := Tryz.eqNil
  have e2 := Tryz.typeOfS
  have e4 := Tryz.assignableSS
  have e8 := Tryz.valueOfES
  have hla := block_of_cell ha
  go_enter Tryz.func61, Tryz.ntmps61
  go_wp2
  go_loopg [0] ps.length (fun k v wr => wr = (w.alloc (.cells #[.pointer (some ⟨7, 92, none⟩), .pointer (some ⟨a, 0, none⟩), .int .u64 150] 113)) ∧ ∃ ps, k = List.length ps ∧ Chn w ps (baseS s) v)
  case atStart => exact ⟨rfl, ps, rfl, hc⟩
  case round =>
    obtain ⟨rfl, ps, rfl, hc⟩ := hrel
    rcases ps with _ | ⟨p, ps⟩
    · obtain ⟨-, rfl⟩ := hc
      unfold baseS
      have b1 : Below w.heap.size w (w.alloc (.cells #[.pointer (some ⟨7, 92, none⟩), .pointer (some ⟨a, 0, none⟩), .int .u64 150] 113)) := (Below.refl _ _).alloc (Nat.le_refl _) _
      have b2 : Below w.heap.size w ((w.alloc (.cells #[.pointer (some ⟨7, 92, none⟩), .pointer (some ⟨a, 0, none⟩), .int .u64 150] 113)).alloc (.cells #[.int .i64 s] 49)) := b1.alloc b1.size _
      have hlt := block_of_cell ht
      have el := Tryz.elemVPS ⟨a, 0, none⟩ ⟨tb, 0, none⟩ (w.alloc (.cells #[.pointer (some ⟨7, 92, none⟩), .pointer (some ⟨a, 0, none⟩), .int .u64 150] 113)) (by rw [b1.cell (p := ⟨a, 0, none⟩) hla]; exact ha)
      have st := Tryz.setES ⟨tb, 0, none⟩ ⟨w.heap.size + 1, 0, none⟩ s o1 ((w.alloc (.cells #[.pointer (some ⟨7, 92, none⟩), .pointer (some ⟨a, 0, none⟩), .int .u64 150] 113)).alloc (.cells #[.int .i64 s] 49)) (by rw [World.cell?_alloc_at _ _ _ _ (by simp)]; rfl)
        (by rw [b2.cell (p := ⟨tb, 0, none⟩) hlt]; exact ht) (by rw [b2.frozen (p := ⟨tb, 0, none⟩) hlt]; exact hf)
      go_wp2
      go_ret
      exact ⟨rfl, ((wrote1 (Below.refl _ _) ht).alloc hlt _).alloc hlt _⟩
    · exact absurd hc.1 (by simp)


set_option maxRecDepth 100000 in
set_option maxHeartbeats 2000000 in
/-- errors.as at a status, the target a fault: there is none. -/
theorem as_FS (ps : List ByteArray) (v : Value) (tb a : Nat) (s : Int) (w : World) (hc : Chn w ps (baseS s) v)
    (ha : w.cell? ⟨a, 0, none⟩ = some (.pointer (some ⟨tb, 0, none⟩))) :
    Calls Tryz.prog 61 #[v, .iface 108 (.pointer (some ⟨tb, 0, none⟩)), .agg #[.pointer (some ⟨7, 108, none⟩), .pointer (some ⟨a, 0, none⟩), .int .u64 150], .iface 95 (.agg #[.pointer (some ⟨7, 77, none⟩)])] w (ReturnsIn false (Below w.heap.size w)) := by
  have h29 := @run_callFunc_extern Tryz.prog 58 _ (fun args => ReflectliteValue.unpack (args.getD 0 (.tuple #[]))) Tryz.func58 (by kernel_rfl) (by kernel_rfl) (by kernel_rfl) (by kernel_rfl)
  have h33 := @run_callFunc_extern Tryz.prog 33 _ ReflectliteType.typeOf Tryz.func33 (by kernel_rfl) (by kernel_rfl) (by kernel_rfl) (by kernel_rfl)
  have h80 := @run_callFunc_extern Tryz.prog 147 _ (ReflectliteType.relation "AssignableTo" ReflectliteType.assignableTo) Tryz.func147 (by kernel_rfl) (by kernel_rfl) (by kernel_rfl) (by kernel_rfl)
  have h39 := @run_callFunc_extern Tryz.prog 69 _ (ReflectliteValue.method (ReflectliteValue.valueError "reflectlite.Value.Elem" 0) ReflectliteValue.elem) Tryz.func69 (by kernel_rfl) (by kernel_rfl) (by kernel_rfl) (by kernel_rfl)
  have h40 := @run_callFunc_extern Tryz.prog 70 _ ReflectliteValue.set Tryz.func70 (by kernel_rfl) (by kernel_rfl) (by kernel_rfl) (by kernel_rfl)
  have mA := Tryz.methodAssignableTo
  have hq := Tryz.eqNil
  have e2 := Tryz.typeOfS
  have e4 := Tryz.assignableSF
  have e6 := Tryz.asS
  have e8 := Tryz.unwrapS
  have e9 := Tryz.unwrapsS
  have hla := block_of_cell ha
  go_enter Tryz.func61, Tryz.ntmps61
  go_wp2
  go_loopg [0] ps.length (fun k v wr => wr = (w.alloc (.cells #[.pointer (some ⟨7, 108, none⟩), .pointer (some ⟨a, 0, none⟩), .int .u64 150] 113)) ∧ ∃ ps, k = List.length ps ∧ Chn w ps (baseS s) v)
  case atStart => exact ⟨rfl, ps, rfl, hc⟩
  case round =>
    obtain ⟨rfl, ps, rfl, hc⟩ := hrel
    rcases ps with _ | ⟨p, ps⟩
    · obtain ⟨-, rfl⟩ := hc
      unfold baseS
      go_wp2
      go_ret
      exact ⟨rfl, (Below.refl _ _).alloc (Nat.le_refl _) _⟩
    · exact absurd hc.1 (by simp)


set_option maxRecDepth 100000 in
set_option maxHeartbeats 2000000 in
/-- errors.as at a fault, the target a status: it is found behind the fault. -/
theorem as_SF (ps : List ByteArray) (v : Value) (tb a : Nat) (s n : Int) (o1 : Value) (w : World) (hc : Chn w ps (baseF s n) v)
    (ha : w.cell? ⟨a, 0, none⟩ = some (.pointer (some ⟨tb, 0, none⟩)))
    (ht : w.cell? ⟨tb, 0, none⟩ = some o1) (hf : w.frozen? ⟨tb, 0, none⟩ = false) :
    Calls Tryz.prog 61 #[v, .iface 92 (.pointer (some ⟨tb, 0, none⟩)), .agg #[.pointer (some ⟨7, 92, none⟩), .pointer (some ⟨a, 0, none⟩), .int .u64 150], .iface 95 (.agg #[.pointer (some ⟨7, 49, none⟩)])] w (ReturnsIn true (Wrote w tb [.int .i64 s])) := by
  have h29 := @run_callFunc_extern Tryz.prog 58 _ (fun args => ReflectliteValue.unpack (args.getD 0 (.tuple #[]))) Tryz.func58 (by kernel_rfl) (by kernel_rfl) (by kernel_rfl) (by kernel_rfl)
  have h33 := @run_callFunc_extern Tryz.prog 33 _ ReflectliteType.typeOf Tryz.func33 (by kernel_rfl) (by kernel_rfl) (by kernel_rfl) (by kernel_rfl)
  have h80 := @run_callFunc_extern Tryz.prog 147 _ (ReflectliteType.relation "AssignableTo" ReflectliteType.assignableTo) Tryz.func147 (by kernel_rfl) (by kernel_rfl) (by kernel_rfl) (by kernel_rfl)
  have h39 := @run_callFunc_extern Tryz.prog 69 _ (ReflectliteValue.method (ReflectliteValue.valueError "reflectlite.Value.Elem" 0) ReflectliteValue.elem) Tryz.func69 (by kernel_rfl) (by kernel_rfl) (by kernel_rfl) (by kernel_rfl)
  have h40 := @run_callFunc_extern Tryz.prog 70 _ ReflectliteValue.set Tryz.func70 (by kernel_rfl) (by kernel_rfl) (by kernel_rfl) (by kernel_rfl)
  have mA := Tryz.methodAssignableTo
  have hq := Tryz.eqNil
  have e2 := Tryz.typeOfF
  have e3 := Tryz.typeOfS
  have e5 := Tryz.assignableFS
  have e6 := Tryz.assignableSS
  have e8 := Tryz.asF
  have e10 := Tryz.unwrapF
  have e12 := Tryz.mUnwrapF
  have e13 := Tryz.valueOfES
  have hla := block_of_cell ha
  go_enter Tryz.func61, Tryz.ntmps61
  go_wp2
  go_loopg [0] (ps.length + 1) (fun k v wr => (wr = (w.alloc (.cells #[.pointer (some ⟨7, 92, none⟩), .pointer (some ⟨a, 0, none⟩), .int .u64 150] 113)) ∧ ∃ ps, k = List.length ps + 1 ∧ Chn w ps (baseF s n) v) ∨ (k = 0 ∧ v = baseS s ∧ wr = ((w.alloc (.cells #[.pointer (some ⟨7, 92, none⟩), .pointer (some ⟨a, 0, none⟩), .int .u64 150] 113)).alloc (.cells #[.int .i64 s, .int .i64 n] 77))))
  case atStart => exact .inl ⟨rfl, ps, rfl, hc⟩
  case round =>
    rcases hrel with ⟨rfl, ps, rfl, hc⟩ | ⟨rfl, rfl, rfl⟩
    rcases ps with _ | ⟨p, ps⟩
    · obtain ⟨-, rfl⟩ := hc
      unfold baseF
      go_wp2_with (go_at_call 145; refine (unwrapF_any _ _ _).mono ?_; rintro e w' ⟨rfl, rfl⟩)
      go_roundg 0
      case measure => simp
      case rel => exact .inr ⟨rfl, rfl, rfl⟩
    · exact absurd hc.1 (by simp)
    · unfold baseS
      have b1 : Below w.heap.size w ((w.alloc (.cells #[.pointer (some ⟨7, 92, none⟩), .pointer (some ⟨a, 0, none⟩), .int .u64 150] 113)).alloc (.cells #[.int .i64 s, .int .i64 n] 77)) := ((Below.refl _ _).alloc (Nat.le_refl _) _).alloc (by simp) _
      have b2 : Below w.heap.size w (((w.alloc (.cells #[.pointer (some ⟨7, 92, none⟩), .pointer (some ⟨a, 0, none⟩), .int .u64 150] 113)).alloc (.cells #[.int .i64 s, .int .i64 n] 77)).alloc (.cells #[.int .i64 s] 49)) := b1.alloc b1.size _
      have hlt := block_of_cell ht
      have el := Tryz.elemVPS ⟨a, 0, none⟩ ⟨tb, 0, none⟩ ((w.alloc (.cells #[.pointer (some ⟨7, 92, none⟩), .pointer (some ⟨a, 0, none⟩), .int .u64 150] 113)).alloc (.cells #[.int .i64 s, .int .i64 n] 77)) (by rw [b1.cell (p := ⟨a, 0, none⟩) hla]; exact ha)
      have st := Tryz.setES ⟨tb, 0, none⟩ ⟨w.heap.size + 1 + 1, 0, none⟩ s o1 (((w.alloc (.cells #[.pointer (some ⟨7, 92, none⟩), .pointer (some ⟨a, 0, none⟩), .int .u64 150] 113)).alloc (.cells #[.int .i64 s, .int .i64 n] 77)).alloc (.cells #[.int .i64 s] 49)) (by rw [World.cell?_alloc_at _ _ _ _ (by simp)]; rfl)
        (by rw [b2.cell (p := ⟨tb, 0, none⟩) hlt]; exact ht) (by rw [b2.frozen (p := ⟨tb, 0, none⟩) hlt]; exact hf)
      go_wp2
      go_ret
      exact ⟨rfl, wrote1 b2 ht⟩

end Go.Proofs.YtbjfdakanhaagaaGreatDoor

/-! ## FltG -/
/- Errors of package fault: the contracts of errors.As, at the targets *api.Fault and *api.Status. -/
namespace Go.Proofs.YtbjfdakanhaagaaGreatDoor
open Go.RowKit Go.Extern.Stop Go.Stop Go.Extern

theorem Wrote.behind {w W w' : World} {tb : Nat} {cs : List Value} (hb : Below w.heap.size w W) (h : Wrote W tb cs w') (htb : tb < w.heap.size) : Wrote w tb cs w' := by
  obtain ⟨hg, hf, hcell⟩ := h
  refine ⟨⟨hg.os.trans hb.os, hg.tape.trans hb.tape, hg.output.trans hb.output, Nat.le_trans hb.size hg.size, fun k hk hne => ?_⟩, fun o' => ?_, hcell⟩
  · rw [hg.block k (Nat.lt_of_lt_of_le hk hb.size) hne]; exact hb.block k hk
  · rw [hf o']; exact hb.frozen (p := ⟨tb, o', none⟩) htb
/-- The package-level variable errors.errorType holds the handle of the type error. -/
def ErrType (w : World) : Prop := w.cell? ⟨0, 0, none⟩ = some (.iface 95 (.agg #[.pointer (some ⟨7, 28, none⟩)]))
theorem ErrType.below {w w' : World} (hb : Below w.heap.size w w') (h : ErrType w) : ErrType w' := by
  unfold ErrType at *
  rw [hb.cell (p := ⟨0, 0, none⟩) (block_of_cell h)]; exact h

theorem as_nil (t : Value) (w : World) :
    Calls Tryz.prog 44 #[.nilIface, t] w fun e w' => e = .returned (.bool false) ∧ w = w' := by
  go_enter Tryz.func44, Tryz.ntmps44
  go_wp2
  go_ret
  exact ⟨rfl, rfl⟩

set_option maxRecDepth 100000 in
set_option maxHeartbeats 2000000 in
theorem As_FF (ps : List ByteArray) (v : Value) (tb : Nat) (s n : Int) (o1 o2 : Value) (w : World) (hg : ErrType w) (hc : Chn w ps (baseF s n) v)
    (ht : w.cell? ⟨tb, 0, none⟩ = some o1) (ht1 : w.cell? ⟨tb, 1, none⟩ = some o2) (hf : w.frozen? ⟨tb, 0, none⟩ = false) (hf1 : w.frozen? ⟨tb, 1, none⟩ = false) :
    Calls Tryz.prog 44 #[v, .iface 108 (.pointer (some ⟨tb, 0, none⟩))] w (ReturnsIn true (Wrote w tb [.int .i64 s, .int .i64 n])) := by
  have h29 := @run_callFunc_extern Tryz.prog 58 _ (fun args => ReflectliteValue.unpack (args.getD 0 (.tuple #[]))) Tryz.func58 (by kernel_rfl) (by kernel_rfl) (by kernel_rfl) (by kernel_rfl)
  have h30 := @run_callFunc_extern Tryz.prog 59 _ (ReflectliteValue.methodAny (ReflectliteValue.valueError "reflectlite.Value.Type" 0) (fun t _ _ _ => ReflectliteType.toType t)) Tryz.func59 (by kernel_rfl) (by kernel_rfl) (by kernel_rfl) (by kernel_rfl)
  have h31 := @run_callFunc_extern Tryz.prog 60 _ (ReflectliteValue.method (ReflectliteValue.valueError "reflectlite.Value.IsNil" 0) ReflectliteValue.isNil) Tryz.func60 (by kernel_rfl) (by kernel_rfl) (by kernel_rfl) (by kernel_rfl)
  have h68 := @run_callFunc_extern Tryz.prog 140 _ (ReflectliteType.abiMethod fun t => do pure (.int .u8 (← Rtype.kind t))) Tryz.func140 (by kernel_rfl) (by kernel_rfl) (by kernel_rfl) (by kernel_rfl)
  have h82 := @run_callFunc_extern Tryz.prog 149 _ (ReflectliteType.method ReflectliteType.elem) Tryz.func149 (by kernel_rfl) (by kernel_rfl) (by kernel_rfl) (by kernel_rfl)
  have h83 := @run_callFunc_extern Tryz.prog 150 _ (ReflectliteType.relation "Implements" ReflectliteType.implements_) Tryz.func150 (by kernel_rfl) (by kernel_rfl) (by kernel_rfl) (by kernel_rfl)
  have mK := Tryz.methodKind
  have mE := Tryz.methodElem
  have mI := Tryz.methodImplements
  have hq := Tryz.eqNil
  have f1 := Tryz.valueOfPF
  have f2 := Tryz.typePF
  have f3 := Tryz.kindPF
  have f4 := Tryz.kindEF
  have f5 := Tryz.elemPF
  have f6 := Tryz.implementsEF
  have hlt := block_of_cell ht
  have b1 : Below w.heap.size w (w.alloc (.cells #[.pointer (some ⟨tb, 0, none⟩)] 108)) := (Below.refl _ _).alloc (Nat.le_refl _) _
  have b2 : Below w.heap.size w ((w.alloc (.cells #[.pointer (some ⟨tb, 0, none⟩)] 108)).alloc (.cells #[.pointer (some ⟨7, 108, none⟩), .pointer (some ⟨w.heap.size, 0, none⟩), .int .u64 150] 113)) := b1.alloc b1.size _
  have n1 := Tryz.isNilPF ⟨w.heap.size, 0, none⟩ ⟨tb, 0, none⟩ ((w.alloc (.cells #[.pointer (some ⟨tb, 0, none⟩)] 108)).alloc (.cells #[.pointer (some ⟨7, 108, none⟩), .pointer (some ⟨w.heap.size, 0, none⟩), .int .u64 150] 113)) (by rw [World.cell?_alloc_lt _ _ ⟨w.heap.size, 0, none⟩ (by simp)]; simp)
  have ha2 : (((w.alloc (.cells #[.pointer (some ⟨tb, 0, none⟩)] 108)).alloc (.cells #[.pointer (some ⟨7, 108, none⟩), .pointer (some ⟨w.heap.size, 0, none⟩), .int .u64 150] 113))).cell? ⟨w.heap.size, 0, none⟩ = some (.pointer (some ⟨tb, 0, none⟩)) := by rw [World.cell?_alloc_lt _ _ ⟨w.heap.size, 0, none⟩ (by simp)]; simp
  have hg2 := hg.below b2
  unfold ErrType at hg2
  have hc2 := hc.below b2
  obtain ⟨ti, xi, rfl⟩ := hc.iface ⟨_, _, rfl⟩
  have ht2 : (((w.alloc (.cells #[.pointer (some ⟨tb, 0, none⟩)] 108)).alloc (.cells #[.pointer (some ⟨7, 108, none⟩), .pointer (some ⟨w.heap.size, 0, none⟩), .int .u64 150] 113))).cell? ⟨tb, 0, none⟩ = some o1 := by rw [b2.cell (p := ⟨tb, 0, none⟩) hlt]; exact ht
  have hf2 : (((w.alloc (.cells #[.pointer (some ⟨tb, 0, none⟩)] 108)).alloc (.cells #[.pointer (some ⟨7, 108, none⟩), .pointer (some ⟨w.heap.size, 0, none⟩), .int .u64 150] 113))).frozen? ⟨tb, 0, none⟩ = false := by rw [b2.frozen (p := ⟨tb, 0, none⟩) hlt]; exact hf
  have ht21 : (((w.alloc (.cells #[.pointer (some ⟨tb, 0, none⟩)] 108)).alloc (.cells #[.pointer (some ⟨7, 108, none⟩), .pointer (some ⟨w.heap.size, 0, none⟩), .int .u64 150] 113))).cell? ⟨tb, 1, none⟩ = some o2 := by rw [b2.cell (p := ⟨tb, 1, none⟩) hlt]; exact ht1
  have hf21 : (((w.alloc (.cells #[.pointer (some ⟨tb, 0, none⟩)] 108)).alloc (.cells #[.pointer (some ⟨7, 108, none⟩), .pointer (some ⟨w.heap.size, 0, none⟩), .int .u64 150] 113))).frozen? ⟨tb, 1, none⟩ = false := by rw [b2.frozen (p := ⟨tb, 1, none⟩) hlt]; exact hf1
  go_enter Tryz.func44, Tryz.ntmps44
  go_wp2_with (go_at_call 61; refine (as_FF ps _ tb w.heap.size s n o1 o2 _ (by exact hc2) (by exact ha2) (by exact ht2) (by exact ht21) (by exact hf2) (by exact hf21)).mono ?_; rintro e w' ⟨rfl, hw⟩)
  go_ret
  exact ⟨rfl, hw.behind b2 hlt⟩

set_option maxRecDepth 100000 in
set_option maxHeartbeats 2000000 in
theorem As_SS (ps : List ByteArray) (v : Value) (tb : Nat) (s : Int) (o1 : Value) (w : World) (hg : ErrType w) (hc : Chn w ps (baseS s) v)
    (ht : w.cell? ⟨tb, 0, none⟩ = some o1) (hf : w.frozen? ⟨tb, 0, none⟩ = false) :
    Calls Tryz.prog 44 #[v, .iface 92 (.pointer (some ⟨tb, 0, none⟩))] w (ReturnsIn true (Wrote w tb [.int .i64 s])) := by
  have h29 := @run_callFunc_extern Tryz.prog 58 _ (fun args => ReflectliteValue.unpack (args.getD 0 (.tuple #[]))) Tryz.func58 (by kernel_rfl) (by kernel_rfl) (by kernel_rfl) (by kernel_rfl)
  have h30 := @run_callFunc_extern Tryz.prog 59 _ (ReflectliteValue.methodAny (ReflectliteValue.valueError "reflectlite.Value.Type" 0) (fun t _ _ _ => ReflectliteType.toType t)) Tryz.func59 (by kernel_rfl) (by kernel_rfl) (by kernel_rfl) (by kernel_rfl)
  have h31 := @run_callFunc_extern Tryz.prog 60 _ (ReflectliteValue.method (ReflectliteValue.valueError "reflectlite.Value.IsNil" 0) ReflectliteValue.isNil) Tryz.func60 (by kernel_rfl) (by kernel_rfl) (by kernel_rfl) (by kernel_rfl)
  have h68 := @run_callFunc_extern Tryz.prog 140 _ (ReflectliteType.abiMethod fun t => do pure (.int .u8 (← Rtype.kind t))) Tryz.func140 (by kernel_rfl) (by kernel_rfl) (by kernel_rfl) (by kernel_rfl)
  have h82 := @run_callFunc_extern Tryz.prog 149 _ (ReflectliteType.method ReflectliteType.elem) Tryz.func149 (by kernel_rfl) (by kernel_rfl) (by kernel_rfl) (by kernel_rfl)
  have h83 := @run_callFunc_extern Tryz.prog 150 _ (ReflectliteType.relation "Implements" ReflectliteType.implements_) Tryz.func150 (by kernel_rfl) (by kernel_rfl) (by kernel_rfl) (by kernel_rfl)
  have mK := Tryz.methodKind
  have mE := Tryz.methodElem
  have mI := Tryz.methodImplements
  have hq := Tryz.eqNil
  have f1 := Tryz.valueOfPS
  have f2 := Tryz.typePS
  have f3 := Tryz.kindPS
  have f4 := Tryz.kindES
  have f5 := Tryz.elemPS
  have f6 := Tryz.implementsES
  have hlt := block_of_cell ht
  have b1 : Below w.heap.size w (w.alloc (.cells #[.pointer (some ⟨tb, 0, none⟩)] 92)) := (Below.refl _ _).alloc (Nat.le_refl _) _
  have b2 : Below w.heap.size w ((w.alloc (.cells #[.pointer (some ⟨tb, 0, none⟩)] 92)).alloc (.cells #[.pointer (some ⟨7, 92, none⟩), .pointer (some ⟨w.heap.size, 0, none⟩), .int .u64 150] 113)) := b1.alloc b1.size _
  have n1 := Tryz.isNilPS ⟨w.heap.size, 0, none⟩ ⟨tb, 0, none⟩ ((w.alloc (.cells #[.pointer (some ⟨tb, 0, none⟩)] 92)).alloc (.cells #[.pointer (some ⟨7, 92, none⟩), .pointer (some ⟨w.heap.size, 0, none⟩), .int .u64 150] 113)) (by rw [World.cell?_alloc_lt _ _ ⟨w.heap.size, 0, none⟩ (by simp)]; simp)
  have ha2 : (((w.alloc (.cells #[.pointer (some ⟨tb, 0, none⟩)] 92)).alloc (.cells #[.pointer (some ⟨7, 92, none⟩), .pointer (some ⟨w.heap.size, 0, none⟩), .int .u64 150] 113))).cell? ⟨w.heap.size, 0, none⟩ = some (.pointer (some ⟨tb, 0, none⟩)) := by rw [World.cell?_alloc_lt _ _ ⟨w.heap.size, 0, none⟩ (by simp)]; simp
  have hg2 := hg.below b2
  unfold ErrType at hg2
  have hc2 := hc.below b2
  obtain ⟨ti, xi, rfl⟩ := hc.iface ⟨_, _, rfl⟩
  have ht2 : (((w.alloc (.cells #[.pointer (some ⟨tb, 0, none⟩)] 92)).alloc (.cells #[.pointer (some ⟨7, 92, none⟩), .pointer (some ⟨w.heap.size, 0, none⟩), .int .u64 150] 113))).cell? ⟨tb, 0, none⟩ = some o1 := by rw [b2.cell (p := ⟨tb, 0, none⟩) hlt]; exact ht
  have hf2 : (((w.alloc (.cells #[.pointer (some ⟨tb, 0, none⟩)] 92)).alloc (.cells #[.pointer (some ⟨7, 92, none⟩), .pointer (some ⟨w.heap.size, 0, none⟩), .int .u64 150] 113))).frozen? ⟨tb, 0, none⟩ = false := by rw [b2.frozen (p := ⟨tb, 0, none⟩) hlt]; exact hf
  go_enter Tryz.func44, Tryz.ntmps44
  go_wp2_with (go_at_call 61; refine (as_SS ps _ tb w.heap.size s o1 _ (by exact hc2) (by exact ha2) (by exact ht2) (by exact hf2)).mono ?_; rintro e w' ⟨rfl, hw⟩)
  go_ret
  exact ⟨rfl, hw.behind b2 hlt⟩

set_option maxRecDepth 100000 in
set_option maxHeartbeats 2000000 in
theorem As_FS (ps : List ByteArray) (v : Value) (tb : Nat) (s : Int) (o1 : Value) (w : World) (hg : ErrType w) (hc : Chn w ps (baseS s) v)
    (ht : w.cell? ⟨tb, 0, none⟩ = some o1) :
    Calls Tryz.prog 44 #[v, .iface 108 (.pointer (some ⟨tb, 0, none⟩))] w (ReturnsIn false (Below w.heap.size w)) := by
  have h29 := @run_callFunc_extern Tryz.prog 58 _ (fun args => ReflectliteValue.unpack (args.getD 0 (.tuple #[]))) Tryz.func58 (by kernel_rfl) (by kernel_rfl) (by kernel_rfl) (by kernel_rfl)
  have h30 := @run_callFunc_extern Tryz.prog 59 _ (ReflectliteValue.methodAny (ReflectliteValue.valueError "reflectlite.Value.Type" 0) (fun t _ _ _ => ReflectliteType.toType t)) Tryz.func59 (by kernel_rfl) (by kernel_rfl) (by kernel_rfl) (by kernel_rfl)
  have h31 := @run_callFunc_extern Tryz.prog 60 _ (ReflectliteValue.method (ReflectliteValue.valueError "reflectlite.Value.IsNil" 0) ReflectliteValue.isNil) Tryz.func60 (by kernel_rfl) (by kernel_rfl) (by kernel_rfl) (by kernel_rfl)
  have h68 := @run_callFunc_extern Tryz.prog 140 _ (ReflectliteType.abiMethod fun t => do pure (.int .u8 (← Rtype.kind t))) Tryz.func140 (by kernel_rfl) (by kernel_rfl) (by kernel_rfl) (by kernel_rfl)
  have h82 := @run_callFunc_extern Tryz.prog 149 _ (ReflectliteType.method ReflectliteType.elem) Tryz.func149 (by kernel_rfl) (by kernel_rfl) (by kernel_rfl) (by kernel_rfl)
  have h83 := @run_callFunc_extern Tryz.prog 150 _ (ReflectliteType.relation "Implements" ReflectliteType.implements_) Tryz.func150 (by kernel_rfl) (by kernel_rfl) (by kernel_rfl) (by kernel_rfl)
  have mK := Tryz.methodKind
  have mE := Tryz.methodElem
  have mI := Tryz.methodImplements
  have hq := Tryz.eqNil
  have f1 := Tryz.valueOfPF
  have f2 := Tryz.typePF
  have f3 := Tryz.kindPF
  have f4 := Tryz.kindEF
  have f5 := Tryz.elemPF
  have f6 := Tryz.implementsEF
  have hlt := block_of_cell ht
  have b1 : Below w.heap.size w (w.alloc (.cells #[.pointer (some ⟨tb, 0, none⟩)] 108)) := (Below.refl _ _).alloc (Nat.le_refl _) _
  have b2 : Below w.heap.size w ((w.alloc (.cells #[.pointer (some ⟨tb, 0, none⟩)] 108)).alloc (.cells #[.pointer (some ⟨7, 108, none⟩), .pointer (some ⟨w.heap.size, 0, none⟩), .int .u64 150] 113)) := b1.alloc b1.size _
  have n1 := Tryz.isNilPF ⟨w.heap.size, 0, none⟩ ⟨tb, 0, none⟩ ((w.alloc (.cells #[.pointer (some ⟨tb, 0, none⟩)] 108)).alloc (.cells #[.pointer (some ⟨7, 108, none⟩), .pointer (some ⟨w.heap.size, 0, none⟩), .int .u64 150] 113)) (by rw [World.cell?_alloc_lt _ _ ⟨w.heap.size, 0, none⟩ (by simp)]; simp)
  have ha2 : (((w.alloc (.cells #[.pointer (some ⟨tb, 0, none⟩)] 108)).alloc (.cells #[.pointer (some ⟨7, 108, none⟩), .pointer (some ⟨w.heap.size, 0, none⟩), .int .u64 150] 113))).cell? ⟨w.heap.size, 0, none⟩ = some (.pointer (some ⟨tb, 0, none⟩)) := by rw [World.cell?_alloc_lt _ _ ⟨w.heap.size, 0, none⟩ (by simp)]; simp
  have hg2 := hg.below b2
  unfold ErrType at hg2
  have hc2 := hc.below b2
  obtain ⟨ti, xi, rfl⟩ := hc.iface ⟨_, _, rfl⟩
  go_enter Tryz.func44, Tryz.ntmps44
  go_wp2_with (go_at_call 61; refine (as_FS ps _ tb w.heap.size s _ (by exact hc2) (by exact ha2)).mono ?_; rintro e w' ⟨rfl, hw⟩)
  go_ret
  exact ⟨rfl, b2.trans (hw.mono b2.size)⟩

set_option maxRecDepth 100000 in
set_option maxHeartbeats 2000000 in
theorem As_SF (ps : List ByteArray) (v : Value) (tb : Nat) (s n : Int) (o1 : Value) (w : World) (hg : ErrType w) (hc : Chn w ps (baseF s n) v)
    (ht : w.cell? ⟨tb, 0, none⟩ = some o1) (hf : w.frozen? ⟨tb, 0, none⟩ = false) :
    Calls Tryz.prog 44 #[v, .iface 92 (.pointer (some ⟨tb, 0, none⟩))] w (ReturnsIn true (Wrote w tb [.int .i64 s])) := by
  have h29 := @run_callFunc_extern Tryz.prog 58 _ (fun args => ReflectliteValue.unpack (args.getD 0 (.tuple #[]))) Tryz.func58 (by kernel_rfl) (by kernel_rfl) (by kernel_rfl) (by kernel_rfl)
  have h30 := @run_callFunc_extern Tryz.prog 59 _ (ReflectliteValue.methodAny (ReflectliteValue.valueError "reflectlite.Value.Type" 0) (fun t _ _ _ => ReflectliteType.toType t)) Tryz.func59 (by kernel_rfl) (by kernel_rfl) (by kernel_rfl) (by kernel_rfl)
  have h31 := @run_callFunc_extern Tryz.prog 60 _ (ReflectliteValue.method (ReflectliteValue.valueError "reflectlite.Value.IsNil" 0) ReflectliteValue.isNil) Tryz.func60 (by kernel_rfl) (by kernel_rfl) (by kernel_rfl) (by kernel_rfl)
  have h68 := @run_callFunc_extern Tryz.prog 140 _ (ReflectliteType.abiMethod fun t => do pure (.int .u8 (← Rtype.kind t))) Tryz.func140 (by kernel_rfl) (by kernel_rfl) (by kernel_rfl) (by kernel_rfl)
  have h82 := @run_callFunc_extern Tryz.prog 149 _ (ReflectliteType.method ReflectliteType.elem) Tryz.func149 (by kernel_rfl) (by kernel_rfl) (by kernel_rfl) (by kernel_rfl)
  have h83 := @run_callFunc_extern Tryz.prog 150 _ (ReflectliteType.relation "Implements" ReflectliteType.implements_) Tryz.func150 (by kernel_rfl) (by kernel_rfl) (by kernel_rfl) (by kernel_rfl)
  have mK := Tryz.methodKind
  have mE := Tryz.methodElem
  have mI := Tryz.methodImplements
  have hq := Tryz.eqNil
  have f1 := Tryz.valueOfPS
  have f2 := Tryz.typePS
  have f3 := Tryz.kindPS
  have f4 := Tryz.kindES
  have f5 := Tryz.elemPS
  have f6 := Tryz.implementsES
  have hlt := block_of_cell ht
  have b1 : Below w.heap.size w (w.alloc (.cells #[.pointer (some ⟨tb, 0, none⟩)] 92)) := (Below.refl _ _).alloc (Nat.le_refl _) _
  have b2 : Below w.heap.size w ((w.alloc (.cells #[.pointer (some ⟨tb, 0, none⟩)] 92)).alloc (.cells #[.pointer (some ⟨7, 92, none⟩), .pointer (some ⟨w.heap.size, 0, none⟩), .int .u64 150] 113)) := b1.alloc b1.size _
  have n1 := Tryz.isNilPS ⟨w.heap.size, 0, none⟩ ⟨tb, 0, none⟩ ((w.alloc (.cells #[.pointer (some ⟨tb, 0, none⟩)] 92)).alloc (.cells #[.pointer (some ⟨7, 92, none⟩), .pointer (some ⟨w.heap.size, 0, none⟩), .int .u64 150] 113)) (by rw [World.cell?_alloc_lt _ _ ⟨w.heap.size, 0, none⟩ (by simp)]; simp)
  have ha2 : (((w.alloc (.cells #[.pointer (some ⟨tb, 0, none⟩)] 92)).alloc (.cells #[.pointer (some ⟨7, 92, none⟩), .pointer (some ⟨w.heap.size, 0, none⟩), .int .u64 150] 113))).cell? ⟨w.heap.size, 0, none⟩ = some (.pointer (some ⟨tb, 0, none⟩)) := by rw [World.cell?_alloc_lt _ _ ⟨w.heap.size, 0, none⟩ (by simp)]; simp
  have hg2 := hg.below b2
  unfold ErrType at hg2
  have hc2 := hc.below b2
  obtain ⟨ti, xi, rfl⟩ := hc.iface ⟨_, _, rfl⟩
  have ht2 : (((w.alloc (.cells #[.pointer (some ⟨tb, 0, none⟩)] 92)).alloc (.cells #[.pointer (some ⟨7, 92, none⟩), .pointer (some ⟨w.heap.size, 0, none⟩), .int .u64 150] 113))).cell? ⟨tb, 0, none⟩ = some o1 := by rw [b2.cell (p := ⟨tb, 0, none⟩) hlt]; exact ht
  have hf2 : (((w.alloc (.cells #[.pointer (some ⟨tb, 0, none⟩)] 92)).alloc (.cells #[.pointer (some ⟨7, 92, none⟩), .pointer (some ⟨w.heap.size, 0, none⟩), .int .u64 150] 113))).frozen? ⟨tb, 0, none⟩ = false := by rw [b2.frozen (p := ⟨tb, 0, none⟩) hlt]; exact hf
  go_enter Tryz.func44, Tryz.ntmps44
  go_wp2_with (go_at_call 61; refine (as_SF ps _ tb w.heap.size s n o1 _ (by exact hc2) (by exact ha2) (by exact ht2) (by exact hf2)).mono ?_; rintro e w' ⟨rfl, hw⟩)
  go_ret
  exact ⟨rfl, hw.behind b2 hlt⟩
end Go.Proofs.YtbjfdakanhaagaaGreatDoor

/-! ## FltH -/
/- Errors of package fault: '==' between errors, and the contracts of errors.Is. -/
namespace Go.Proofs.YtbjfdakanhaagaaGreatDoor
open Go.RowKit Go.Extern.Stop Go.Stop Go.Extern

theorem Tryz.isS (v : Value) (xT : TypeId) (w : World) : (Instr.typeAssert (.iface 49 v) xT 97 true).run Tryz.prog w = .ok (.tuple #[.nilIface, .bool false]) w :=
  run_typeAssert_lacksB Tryz.underlying97 (by kernel_rfl) (by kernel_rfl) v xT w
theorem Tryz.isF (v : Value) (xT : TypeId) (w : World) : (Instr.typeAssert (.iface 77 v) xT 97 true).run Tryz.prog w = .ok (.tuple #[.nilIface, .bool false]) w :=
  run_typeAssert_lacksB Tryz.underlying97 (by kernel_rfl) (by kernel_rfl) v xT w
theorem Tryz.comparableF (w : World) : (ReflectliteType.method (fun t => do Rtype.noPackHeld "Comparable" t; (fun a : TypeInfo => Value.bool a.comparable) <$> typeInfo t) #[.agg #[.pointer (some ⟨7, 77, none⟩)]]).run Tryz.prog w = .ok (.bool true) w := by kernel_rfl
theorem Tryz.comparableS (w : World) : (ReflectliteType.method (fun t => do Rtype.noPackHeld "Comparable" t; (fun a : TypeInfo => Value.bool a.comparable) <$> typeInfo t) #[.agg #[.pointer (some ⟨7, 49, none⟩)]]).run Tryz.prog w = .ok (.bool true) w := by kernel_rfl

theorem Tryz.eqFS (x y : Value) (w : World) : (binOp .eql 28 (.iface 77 x) (.iface 49 y)).run Tryz.prog w = .ok (.bool false) w := run_eql_iface_types 77 49 x y Tryz.underlying28 (by decide) w
theorem Tryz.infoC (t : TypeId) (h : (Tryz.prog.info? t).map (·.comparable) = some true) : ∃ i, Tryz.prog.info? t = some i ∧ i.comparable = true := Option.map_eq_some_iff.1 h
theorem Tryz.equalS (d : Nat) (a b : Int) (w : World) : (Op.equalIn (d + 1) 49 (.int .i64 a) (.int .i64 b)).run Tryz.prog w = .ok (a == b) w := by
  simp [Op.equalIn, run_underlying Tryz.underlying49]
theorem Tryz.equalI (d : Nat) (a b : Int) (w : World) : (Op.equalIn (d + 1) 3 (.int .i64 a) (.int .i64 b)).run Tryz.prog w = .ok (a == b) w := by
  simp [Op.equalIn, run_underlying Tryz.underlying3]
theorem Tryz.equalF (d : Nat) (a b : Int) (w : World) : (Op.equalIn (d + 2) 77 (.agg #[.int .i64 a, .int .i64 b]) (.agg #[.int .i64 a, .int .i64 b])).run Tryz.prog w = .ok true w := by
  have h1 := Tryz.equalS d a a
  have h2 := Tryz.equalI d b b
  have p1 : ∀ w, (part 49 #[.int .i64 a, .int .i64 b] 0).run Tryz.prog w = .ok (.int .i64 a) w := fun w => by kernel_rfl
  have p2 : ∀ w, (part 3 #[.int .i64 a, .int .i64 b] 1).run Tryz.prog w = .ok (.int .i64 b) w := fun w => by kernel_rfl
  rw [show d + 2 = (d + 1) + 1 from rfl, Op.equalIn.eq_def]
  simp [run_underlying Tryz.underlying77, h1, h2, p1, p2]
theorem Tryz.eqSS (a b : Int) (w : World) : (binOp .eql 28 (.iface 49 (.int .i64 a)) (.iface 49 (.int .i64 b))).run Tryz.prog w = .ok (.bool (a == b)) w := by
  obtain ⟨i, hi, hcmp⟩ := Tryz.infoC 49 (by kernel_rfl)
  have h1 := fun d => Tryz.equalS d a b w
  have h : ∀ d : Nat, (Op.equalIn (d + 2) 28 (.iface 49 (.int .i64 a)) (.iface 49 (.int .i64 b))).run Tryz.prog w = .ok (a == b) w := by
    intro d
    rw [show d + 2 = (d + 1) + 1 from rfl, Op.equalIn.eq_def]
    simp [run_underlying Tryz.underlying28, typeInfo, hi, hcmp, h1]
  simp only [binOp]
  simp [Op.equal, Op.maxDepth, h 9998]
theorem Tryz.eqFF (a b : Int) (w : World) : (binOp .eql 28 (.iface 77 (.agg #[.int .i64 a, .int .i64 b])) (.iface 77 (.agg #[.int .i64 a, .int .i64 b]))).run Tryz.prog w = .ok (.bool true) w := by
  obtain ⟨i, hi, hcmp⟩ := Tryz.infoC 77 (by kernel_rfl)
  have h1 := fun d => Tryz.equalF d a b w
  have h : ∀ d : Nat, (Op.equalIn (d + 3) 28 (.iface 77 (.agg #[.int .i64 a, .int .i64 b])) (.iface 77 (.agg #[.int .i64 a, .int .i64 b]))).run Tryz.prog w = .ok true w := by
    intro d
    rw [show d + 3 = (d + 2) + 1 from rfl, Op.equalIn.eq_def]
    simp [run_underlying Tryz.underlying28, typeInfo, hi, hcmp, h1]
  simp only [binOp]
  simp [Op.equal, Op.maxDepth, h 9997]

theorem is_nil (v t : Value) (w : World) (T : TypeId) (hv : v = .iface T t) :
    Calls Tryz.prog 20 #[.nilIface, v] w fun e w' => e = .returned (.bool false) ∧ w = w' := by
  subst hv
  have hq : ∀ w, (binOp .eql 28 .nilIface (.iface T t)).run Tryz.prog w = .ok (.bool false) w := fun w => run_eql_iface_nil_left w T t Tryz.underlying28
  go_enter Tryz.func20, Tryz.ntmps20
  go_wp2
  go_ret
  exact ⟨rfl, rfl⟩
end Go.Proofs.YtbjfdakanhaagaaGreatDoor

/-! ## FltI -/
/- Errors of package fault: the contracts of errors.is and errors.Is where the target is in the chain. -/
namespace Go.Proofs.YtbjfdakanhaagaaGreatDoor
open Go.RowKit Go.Extern.Stop Go.Stop Go.Extern

set_option maxRecDepth 100000 in
set_option maxHeartbeats 2000000 in
theorem is_FF (ps : List ByteArray) (v : Value) (s n : Int) (w : World) (hc : Chn w ps (baseF s n) v) :
    Calls Tryz.prog 34 #[v, baseF s n, .bool true] w (ReturnsIn true (Below w.heap.size w)) := by
  have e2 := Tryz.eqFF
  have hq := Tryz.eqNil
  unfold baseF
  go_enter Tryz.func34, Tryz.ntmps34
  go_wp2
  go_loopg [0] ps.length (fun k v wr => wr = w ∧ ∃ ps, k = List.length ps ∧ Chn w ps (baseF s n) v)
  case atStart => exact ⟨rfl, ps, rfl, hc⟩
  case round =>
    obtain ⟨rfl, ps, rfl, hc⟩ := hrel
    rcases ps with _ | ⟨p, ps⟩
    · obtain ⟨-, rfl⟩ := hc
      unfold baseF
      go_wp2
      go_ret
      exact ⟨rfl, Below.refl _ _⟩
    · exact absurd hc.1 (by simp)

set_option maxRecDepth 100000 in
set_option maxHeartbeats 2000000 in
theorem Is_FF (ps : List ByteArray) (v : Value) (s n : Int) (w : World) (hc : Chn w ps (baseF s n) v) :
    Calls Tryz.prog 20 #[v, baseF s n] w (ReturnsIn true (Below w.heap.size w)) := by
  have h33 := @run_callFunc_extern Tryz.prog 33 _ ReflectliteType.typeOf Tryz.func33 (by kernel_rfl) (by kernel_rfl) (by kernel_rfl) (by kernel_rfl)
  have h81 := @run_callFunc_extern Tryz.prog 148 _ (ReflectliteType.method (fun t => do Rtype.noPackHeld "Comparable" t; pure (.bool (← typeInfo t).comparable))) Tryz.func148 (by kernel_rfl) (by kernel_rfl) (by kernel_rfl) (by kernel_rfl)
  have mC := Tryz.methodComparable
  have f1 := Tryz.typeOfF
  have f2 := Tryz.comparableF
  have hq := Tryz.eqNil
  obtain ⟨ti, xi, rfl⟩ := hc.iface ⟨_, _, rfl⟩
  have hI := Lib.hid (is_FF ps _ s n w hc)
  unfold baseF
  go_enter Tryz.func20, Tryz.ntmps20
  go_wp2_with (go_at_call 34; refine hI.out.mono ?_; rintro e w' ⟨rfl, hw⟩)
  go_ret
  exact ⟨rfl, hw⟩

set_option maxRecDepth 100000 in
set_option maxHeartbeats 2000000 in
theorem is_SS (ps : List ByteArray) (v : Value) (s : Int) (w : World) (hc : Chn w ps (baseS s) v) :
    Calls Tryz.prog 34 #[v, baseS s, .bool true] w (ReturnsIn true (Below w.heap.size w)) := by
  have e2 := Tryz.eqSS
  have hq := Tryz.eqNil
  unfold baseS
  go_enter Tryz.func34, Tryz.ntmps34
  go_wp2
  go_loopg [0] ps.length (fun k v wr => wr = w ∧ ∃ ps, k = List.length ps ∧ Chn w ps (baseS s) v)
  case atStart => exact ⟨rfl, ps, rfl, hc⟩
  case round =>
    obtain ⟨rfl, ps, rfl, hc⟩ := hrel
    rcases ps with _ | ⟨p, ps⟩
    · obtain ⟨-, rfl⟩ := hc
      unfold baseS
      go_wp2
      go_ret
      exact ⟨rfl, Below.refl _ _⟩
    · exact absurd hc.1 (by simp)

set_option maxRecDepth 100000 in
set_option maxHeartbeats 2000000 in
theorem Is_SS (ps : List ByteArray) (v : Value) (s : Int) (w : World) (hc : Chn w ps (baseS s) v) :
    Calls Tryz.prog 20 #[v, baseS s] w (ReturnsIn true (Below w.heap.size w)) := by
  have h33 := @run_callFunc_extern Tryz.prog 33 _ ReflectliteType.typeOf Tryz.func33 (by kernel_rfl) (by kernel_rfl) (by kernel_rfl) (by kernel_rfl)
  have h81 := @run_callFunc_extern Tryz.prog 148 _ (ReflectliteType.method (fun t => do Rtype.noPackHeld "Comparable" t; pure (.bool (← typeInfo t).comparable))) Tryz.func148 (by kernel_rfl) (by kernel_rfl) (by kernel_rfl) (by kernel_rfl)
  have mC := Tryz.methodComparable
  have f1 := Tryz.typeOfS
  have f2 := Tryz.comparableS
  have hq := Tryz.eqNil
  obtain ⟨ti, xi, rfl⟩ := hc.iface ⟨_, _, rfl⟩
  have hI := Lib.hid (is_SS ps _ s w hc)
  unfold baseS
  go_enter Tryz.func20, Tryz.ntmps20
  go_wp2_with (go_at_call 34; refine hI.out.mono ?_; rintro e w' ⟨rfl, hw⟩)
  go_ret
  exact ⟨rfl, hw⟩

set_option maxRecDepth 100000 in
set_option maxHeartbeats 2000000 in
theorem is_SF (ps : List ByteArray) (v : Value) (s n : Int) (w : World) (hc : Chn w ps (baseF s n) v) :
    Calls Tryz.prog 34 #[v, baseS s, .bool true] w (ReturnsIn true (Below w.heap.size w)) := by
  have e2 := Tryz.eqFS
  have e3 := Tryz.eqSS
  have e5 := Tryz.isF
  have e7 := Tryz.unwrapF
  have e9 := Tryz.mUnwrapF
  have hq := Tryz.eqNil
  unfold baseS
  go_enter Tryz.func34, Tryz.ntmps34
  go_wp2
  go_loopg [0] (ps.length + 1) (fun k v wr => (wr = w ∧ ∃ ps, k = List.length ps + 1 ∧ Chn w ps (baseF s n) v) ∨ (k = 0 ∧ v = baseS s ∧ wr = (w.alloc (.cells #[.int .i64 s, .int .i64 n] 77))))
  case atStart => exact .inl ⟨rfl, ps, rfl, hc⟩
  case round =>
    rcases hrel with ⟨rfl, ps, rfl, hc⟩ | ⟨rfl, rfl, rfl⟩
    rcases ps with _ | ⟨p, ps⟩
    · obtain ⟨-, rfl⟩ := hc
      unfold baseF
      go_wp2_with (go_at_call 145; refine (unwrapF_any _ _ _).mono ?_; rintro e w' ⟨rfl, rfl⟩)
      go_roundg 0
      case measure => simp
      case rel => exact .inr ⟨rfl, rfl, rfl⟩
    · exact absurd hc.1 (by simp)
    · unfold baseS
      go_wp2
      go_ret
      exact ⟨rfl, (Below.refl _ _).alloc (Nat.le_refl _) _⟩

set_option maxRecDepth 100000 in
set_option maxHeartbeats 2000000 in
theorem Is_SF (ps : List ByteArray) (v : Value) (s n : Int) (w : World) (hc : Chn w ps (baseF s n) v) :
    Calls Tryz.prog 20 #[v, baseS s] w (ReturnsIn true (Below w.heap.size w)) := by
  have h33 := @run_callFunc_extern Tryz.prog 33 _ ReflectliteType.typeOf Tryz.func33 (by kernel_rfl) (by kernel_rfl) (by kernel_rfl) (by kernel_rfl)
  have h81 := @run_callFunc_extern Tryz.prog 148 _ (ReflectliteType.method (fun t => do Rtype.noPackHeld "Comparable" t; pure (.bool (← typeInfo t).comparable))) Tryz.func148 (by kernel_rfl) (by kernel_rfl) (by kernel_rfl) (by kernel_rfl)
  have mC := Tryz.methodComparable
  have f1 := Tryz.typeOfS
  have f2 := Tryz.comparableS
  have hq := Tryz.eqNil
  obtain ⟨ti, xi, rfl⟩ := hc.iface ⟨_, _, rfl⟩
  have hI := Lib.hid (is_SF ps _ s n w hc)
  unfold baseS
  go_enter Tryz.func20, Tryz.ntmps20
  go_wp2_with (go_at_call 34; refine hI.out.mono ?_; rintro e w' ⟨rfl, hw⟩)
  go_ret
  exact ⟨rfl, hw⟩
end Go.Proofs.YtbjfdakanhaagaaGreatDoor

/-! ## FltJ -/
/- Errors of package fault: the contracts of fault.find at the types api.Fault and api.Status. -/
namespace Go.Proofs.YtbjfdakanhaagaaGreatDoor
open Go.RowKit Go.Extern.Stop Go.Stop Go.Extern

theorem idleF (p q r : Addr) (w : World) :
    CallsD Tryz.prog 52 #[.pointer (some p), .pointer (some q), .pointer (some r)] .returning w fun e u' w' => e = .returned (.tuple #[]) ∧ u' = .returning ∧ w' = w := by
  refine callsD_of_wpS Tryz.func52 rfl fun c₀ cs hu => ?_
  apply wpS_seq
  apply wpS_region
  simp [wpOpsS, go_sem, recoverD, hu, Tryz.ntmps52, Exit.thenS]
  refine wpS_cond (t := false) (by simp [Act.eval, Array.replicate]) ?_
  simp only [Bool.false_eq_true, if_false]
  refine wpS_of_wp (wp_skip ?_)
  cases c₀
  simp_all [bodyPostS, results, Tryz.results52]
theorem idleS (p q r : Addr) (w : World) :
    CallsD Tryz.prog 49 #[.pointer (some p), .pointer (some q), .pointer (some r)] .returning w fun e u' w' => e = .returned (.tuple #[]) ∧ u' = .returning ∧ w' = w := by
  refine callsD_of_wpS Tryz.func49 rfl fun c₀ cs hu => ?_
  apply wpS_seq
  apply wpS_region
  simp [wpOpsS, go_sem, recoverD, hu, Tryz.ntmps49, Exit.thenS]
  refine wpS_cond (t := false) (by simp [Act.eval, Array.replicate]) ?_
  simp only [Bool.false_eq_true, if_false]
  refine wpS_of_wp (wp_skip ?_)
  cases c₀
  simp_all [bodyPostS, results, Tryz.results49]

def FoundIn (v : Value) (b : Bool) (w : World) (e : Ending) (w' : World) : Prop := e = .returned (.tuple #[v, .bool b]) ∧ Below w.heap.size w w'
def faultV (s n : Int) : Value := .agg #[.int .i64 s, .int .i64 n]

theorem wrote_cells {w w' : World} {tb : Nat} {cs : List Value} (h : Wrote w tb cs w') {b : Nat} (hb : b < w.heap.size) (hne : b ≠ tb) :
    (∀ o, w'.cell? ⟨b, o, none⟩ = w.cell? ⟨b, o, none⟩) ∧ (∀ o, w'.frozen? ⟨b, o, none⟩ = w.frozen? ⟨b, o, none⟩) :=
  ⟨fun o => World.cell?_of_block (w := w) (a := ⟨b, o, none⟩) (h.1.block b hb (by simpa using hne)), fun o => World.frozen?_of_block (w := w) (a := ⟨b, o, none⟩) (h.1.block b hb (by simpa using hne))⟩
theorem below_cells {w w' : World} (h : Below w.heap.size w w') {b : Nat} (hb : b < w.heap.size) :
    (∀ o, w'.cell? ⟨b, o, none⟩ = w.cell? ⟨b, o, none⟩) ∧ (∀ o, w'.frozen? ⟨b, o, none⟩ = w.frozen? ⟨b, o, none⟩) :=
  ⟨fun o => h.cell (p := ⟨b, o, none⟩) hb, fun o => h.frozen (p := ⟨b, o, none⟩) hb⟩

theorem heap_new {w : World} {o : Obj} {i : Nat} (h : i = w.heap.size) : (w.alloc o).heap[i]? = some o := by
  subst h; show (w.heap.push o)[w.heap.size]? = _; simp
theorem heap_old {w : World} {o : Obj} {i : Nat} (h : i < w.heap.size) : (w.alloc o).heap[i]? = w.heap[i]? := Below.heap_alloc w o i h
theorem heap3 (w : World) (o0 o1 o2 : Obj) : (((w.alloc o0).alloc o1).alloc o2).heap[w.heap.size]? = some o0 ∧ (((w.alloc o0).alloc o1).alloc o2).heap[w.heap.size + 1]? = some o1 ∧ (((w.alloc o0).alloc o1).alloc o2).heap[w.heap.size + 1 + 1]? = some o2 ∧
    (((w.alloc o0).alloc o1).alloc o2).heap.size = w.heap.size + 3 ∧ Below w.heap.size w (((w.alloc o0).alloc o1).alloc o2) := by
  refine ⟨?_, ?_, ?_, by simp, ?_⟩
  · rw [heap_old (by simp; omega), heap_old (by simp), heap_new rfl]
  · rw [heap_old (by simp), heap_new (by simp)]
  · rw [heap_new (by simp)]
  · exact (((Below.refl _ _).alloc (Nat.le_refl _) _).alloc (by simp) _).alloc (by simp; omega) _
theorem cells_of {w : World} {b : Nat} {cs : Array Value} {t : TypeId} (h : w.heap[b]? = some (.cells cs t (0, 0))) : (∀ o, w.cell? ⟨b, o, none⟩ = cs[o]?) ∧ (∀ o, w.frozen? ⟨b, o, none⟩ = false) :=
  ⟨fun o => by simp [World.cell?, h], fun o => by simp [World.frozen?, h]⟩

set_option maxRecDepth 100000 in
set_option maxHeartbeats 2000000 in
theorem find_FF (ps : List ByteArray) (v : Value) (s n : Int) (w : World) (hg : ErrType w) (hps : ps.length ≤ 500) (hc : Chn w ps (baseF s n) v) :
    Calls Tryz.prog 42 #[v] w (FoundIn (faultV s n) true w) := by
  have hmf : ∀ (fn : Fn) (first cap : Array Value) (w : World), (Instr.makeFunc fn first cap).run Tryz.prog w = .ok (.func fn first cap) w := fun _ _ _ _ => rfl
  go_enter_defers Tryz.func42, Tryz.ntmps42
  go_wp2
  refine wp_loop_rounds 1 ?_
  rw [rounds_succ]
  go_wp2_with fail
  obtain ⟨q0, q1, q2, hz, hb0⟩ := heap3 w (.cells #[.int .i64 0, .int .i64 0] 77) (.cells #[.bool false] 4) (.cells #[.int .i64 0, .int .i64 0] 77)
  generalize ((w.alloc (.cells #[.int .i64 0, .int .i64 0] 77)).alloc (.cells #[.bool false] 4)).alloc (.cells #[.int .i64 0, .int .i64 0] 77) = W at *
  refine (ends_any (ps.length + 2) v W (by omega) (Lnk.ofF (hc.below hb0))).mono ?_
  rintro e w1 ⟨rfl, hb1⟩
  have B1 := hb0.trans (hb1.mono hb0.size)
  have r0 := hb1.block (w.heap.size) (by omega)
  have r1 := hb1.block (w.heap.size + 1) (by omega)
  have r2 := hb1.block (w.heap.size + 1 + 1) (by omega)
  rw [q0] at r0; rw [q1] at r1; rw [q2] at r2
  have hz1 := hb1.size
  have Hz := Lib.hid hz
  clear q0 q1 q2 hz
  have H0 := Lib.hid r0
  have H1 := Lib.hid r1
  have H2 := Lib.hid r2
  clear r0 r1 r2
  go_wp2_with fail
  refine (As_FF ps v w.heap.size s n (.int .i64 0) (.int .i64 0) w1 (hg.below B1) (hc.below B1) (by rw [(cells_of H0.out).1]; rfl) (by rw [(cells_of H0.out).1]; rfl) ((cells_of H0.out).2 _) ((cells_of H0.out).2 _) ).mono ?_
  rintro e w2 ⟨rfl, hw⟩
  have hz2 := hw.1.size
  have B2 : Below w.heap.size w w2 := ⟨hw.1.os.trans B1.os, hw.1.tape.trans B1.tape, hw.1.output.trans B1.output, Nat.le_trans B1.size hz2, fun k hk => (hw.1.block k (Nat.lt_of_lt_of_le hk B1.size) (by simp; omega)).trans (B1.block k hk)⟩
  have M1 := Lib.hid ((hw.1.block (w.heap.size + 1) (by have := Hz.out; omega) (by simp)).trans H1.out)
  have hlt2 : w.heap.size + 1 < w2.heap.size := by have := Hz.out; omega
  have d0 : w2.cell? ⟨w.heap.size, 0, none⟩ = some (.int .i64 s) := hw.2.2 0 _ rfl
  have f0 : w2.frozen? ⟨w.heap.size, 0, none⟩ = false := (hw.2.1 0).trans ((cells_of H0.out).2 _)
  have d1 : w2.cell? ⟨w.heap.size, 1, none⟩ = some (.int .i64 n) := hw.2.2 1 _ rfl
  have f1 : w2.frozen? ⟨w.heap.size, 1, none⟩ = false := (hw.2.1 1).trans ((cells_of H0.out).2 _)
  go_wp2_with fail
  refine (Is_FF ps v s n w2 (hc.below B2)).mono ?_
  rintro e w3 ⟨rfl, hb3⟩
  have B3 := B2.trans (hb3.mono B2.size)
  have m1 : w3.heap[w.heap.size + 1]? = some (.cells #[.bool false] 4 (0, 0)) := (hb3.block _ hlt2).trans M1.out
  have c1 : w3.cell? ⟨w.heap.size + 1, 0, none⟩ = some (.bool false) := by rw [(cells_of m1).1]; rfl
  have g1 : w3.frozen? ⟨w.heap.size + 1, 0, none⟩ = false := (cells_of m1).2 _
  have c00 : w3.cell? ⟨w.heap.size, 0, none⟩ = some (.int .i64 s) := by rw [hb3.cell (p := ⟨w.heap.size, 0, none⟩) (by show w.heap.size < _; omega)]; exact d0
  have g00 : w3.frozen? ⟨w.heap.size, 0, none⟩ = false := by rw [hb3.frozen (p := ⟨w.heap.size, 0, none⟩) (by show w.heap.size < _; omega)]; exact f0
  have c01 : w3.cell? ⟨w.heap.size, 1, none⟩ = some (.int .i64 n) := by rw [hb3.cell (p := ⟨w.heap.size, 1, none⟩) (by show w.heap.size < _; omega)]; exact d1
  have g01 : w3.frozen? ⟨w.heap.size, 1, none⟩ = false := by rw [hb3.frozen (p := ⟨w.heap.size, 1, none⟩) (by show w.heap.size < _; omega)]; exact f1
  have M3 := Lib.hid m1
  clear m1 d0 f0 d1 f1
  go_wp2
  refine leaves_cons (f := 52) (args := #[.pointer (some ⟨w.heap.size + 1 + 1, 0, none⟩), .pointer (some ⟨w.heap.size, 0, none⟩), .pointer (some ⟨w.heap.size + 1, 0, none⟩)]) (by simp) (by simp [go_sem]) ?_
  refine (idleF _ _ _ _).mono ?_
  rintro e u' w'' ⟨rfl, rfl, rfl⟩
  have E0 : (((w3.setCell ⟨w.heap.size, 0, none⟩ (.int .i64 s)).setCell ⟨w.heap.size, 1, none⟩ (.int .i64 n)).setCell ⟨w.heap.size + 1, 0, none⟩ (.bool true)).cell? ⟨w.heap.size, 0, none⟩ = some (.int .i64 s) := by rw [World.cell?_setCell_other _ _ _ _ (by simp)]; rw [World.cell?_setCell_other _ _ _ _ (by simp)]; exact World.cell?_setCell_same _ _ _ (c00)
  have E1 : (((w3.setCell ⟨w.heap.size, 0, none⟩ (.int .i64 s)).setCell ⟨w.heap.size, 1, none⟩ (.int .i64 n)).setCell ⟨w.heap.size + 1, 0, none⟩ (.bool true)).cell? ⟨w.heap.size, 1, none⟩ = some (.int .i64 n) := by rw [World.cell?_setCell_other _ _ _ _ (by simp)]; exact World.cell?_setCell_same _ _ _ (by rw [World.cell?_setCell_other _ _ _ _ (by simp)]; exact c01)
  have E9 : (((w3.setCell ⟨w.heap.size, 0, none⟩ (.int .i64 s)).setCell ⟨w.heap.size, 1, none⟩ (.int .i64 n)).setCell ⟨w.heap.size + 1, 0, none⟩ (.bool true)).cell? ⟨w.heap.size + 1, 0, none⟩ = some (.bool true) := World.cell?_setCell_same _ _ _ (by rw [World.cell?_setCell_other _ _ _ _ (by simp)]; rw [World.cell?_setCell_other _ _ _ _ (by simp)]; exact c1)
  refine ⟨.tuple #[faultV s n, .bool true], ?_, rfl, ((B3.setCell (Nat.le_refl _) _).setCell (Nat.le_refl _) _).setCell (Nat.le_succ _) _⟩
  generalize (((w3.setCell ⟨w.heap.size, 0, none⟩ (.int .i64 s)).setCell ⟨w.heap.size, 1, none⟩ (.int .i64 n)).setCell ⟨w.heap.size + 1, 0, none⟩ (.bool true)) = W4 at *
  simp [results, Tryz.results42, go_sem, E0, E1, E9, faultV]
set_option maxRecDepth 100000 in
set_option maxHeartbeats 2000000 in
theorem find_FS (ps : List ByteArray) (v : Value) (s : Int) (w : World) (hg : ErrType w) (hps : ps.length ≤ 500) (hc : Chn w ps (baseS s) v) :
    Calls Tryz.prog 42 #[v] w (FoundIn (faultV 0 0) false w) := by
  have hmf : ∀ (fn : Fn) (first cap : Array Value) (w : World), (Instr.makeFunc fn first cap).run Tryz.prog w = .ok (.func fn first cap) w := fun _ _ _ _ => rfl
  go_enter_defers Tryz.func42, Tryz.ntmps42
  go_wp2
  refine wp_loop_rounds 1 ?_
  rw [rounds_succ]
  go_wp2_with fail
  obtain ⟨q0, q1, q2, hz, hb0⟩ := heap3 w (.cells #[.int .i64 0, .int .i64 0] 77) (.cells #[.bool false] 4) (.cells #[.int .i64 0, .int .i64 0] 77)
  generalize ((w.alloc (.cells #[.int .i64 0, .int .i64 0] 77)).alloc (.cells #[.bool false] 4)).alloc (.cells #[.int .i64 0, .int .i64 0] 77) = W at *
  refine (ends_any (ps.length + 1) v W (by omega) (Lnk.ofS (hc.below hb0))).mono ?_
  rintro e w1 ⟨rfl, hb1⟩
  have B1 := hb0.trans (hb1.mono hb0.size)
  have r0 := hb1.block (w.heap.size) (by omega)
  have r1 := hb1.block (w.heap.size + 1) (by omega)
  have r2 := hb1.block (w.heap.size + 1 + 1) (by omega)
  rw [q0] at r0; rw [q1] at r1; rw [q2] at r2
  have hz1 := hb1.size
  have Hz := Lib.hid hz
  clear q0 q1 q2 hz
  have H0 := Lib.hid r0
  have H1 := Lib.hid r1
  have H2 := Lib.hid r2
  clear r0 r1 r2
  go_wp2_with fail
  refine (As_FS ps v w.heap.size s (.int .i64 0) w1 (hg.below B1) (hc.below B1) (by rw [(cells_of H0.out).1]; rfl)).mono ?_
  rintro e w2 ⟨rfl, hb2⟩
  have B2 := B1.trans (hb2.mono B1.size)
  have r0 := hb2.block (w.heap.size) (by have := Hz.out; omega)
  have r1 := hb2.block (w.heap.size + 1) (by have := Hz.out; omega)
  have r2 := hb2.block (w.heap.size + 1 + 1) (by have := Hz.out; omega)
  rw [H0.out] at r0; rw [H1.out] at r1; rw [H2.out] at r2
  replace H0 := Lib.hid r0
  replace H1 := Lib.hid r1
  replace H2 := Lib.hid r2
  clear r0 r1 r2
  have c1 : w2.cell? ⟨w.heap.size + 1, 0, none⟩ = some (.bool false) := by rw [(cells_of H1.out).1]; rfl
  have g1 : w2.frozen? ⟨w.heap.size + 1, 0, none⟩ = false := (cells_of H1.out).2 _
  have c00 : w2.cell? ⟨w.heap.size, 0, none⟩ = some (.int .i64 0) := by rw [(cells_of H0.out).1]; rfl
  have g00 : w2.frozen? ⟨w.heap.size, 0, none⟩ = false := (cells_of H0.out).2 _
  have c20 : w2.cell? ⟨w.heap.size + 1 + 1, 0, none⟩ = some (.int .i64 0) := by rw [(cells_of H2.out).1]; rfl
  have c01 : w2.cell? ⟨w.heap.size, 1, none⟩ = some (.int .i64 0) := by rw [(cells_of H0.out).1]; rfl
  have g01 : w2.frozen? ⟨w.heap.size, 1, none⟩ = false := (cells_of H0.out).2 _
  have c21 : w2.cell? ⟨w.heap.size + 1 + 1, 1, none⟩ = some (.int .i64 0) := by rw [(cells_of H2.out).1]; rfl
  go_wp2
  refine leaves_cons (f := 52) (args := #[.pointer (some ⟨w.heap.size + 1 + 1, 0, none⟩), .pointer (some ⟨w.heap.size, 0, none⟩), .pointer (some ⟨w.heap.size + 1, 0, none⟩)]) (by simp) (by simp [go_sem]) ?_
  refine (idleF _ _ _ _).mono ?_
  rintro e u' w'' ⟨rfl, rfl, rfl⟩
  have E0 : (((w2.setCell ⟨w.heap.size, 0, none⟩ (.int .i64 0)).setCell ⟨w.heap.size, 1, none⟩ (.int .i64 0)).setCell ⟨w.heap.size + 1, 0, none⟩ (.bool false)).cell? ⟨w.heap.size, 0, none⟩ = some (.int .i64 0) := by rw [World.cell?_setCell_other _ _ _ _ (by simp)]; rw [World.cell?_setCell_other _ _ _ _ (by simp)]; exact World.cell?_setCell_same _ _ _ (c00)
  have E1 : (((w2.setCell ⟨w.heap.size, 0, none⟩ (.int .i64 0)).setCell ⟨w.heap.size, 1, none⟩ (.int .i64 0)).setCell ⟨w.heap.size + 1, 0, none⟩ (.bool false)).cell? ⟨w.heap.size, 1, none⟩ = some (.int .i64 0) := by rw [World.cell?_setCell_other _ _ _ _ (by simp)]; exact World.cell?_setCell_same _ _ _ (by rw [World.cell?_setCell_other _ _ _ _ (by simp)]; exact c01)
  have E9 : (((w2.setCell ⟨w.heap.size, 0, none⟩ (.int .i64 0)).setCell ⟨w.heap.size, 1, none⟩ (.int .i64 0)).setCell ⟨w.heap.size + 1, 0, none⟩ (.bool false)).cell? ⟨w.heap.size + 1, 0, none⟩ = some (.bool false) := World.cell?_setCell_same _ _ _ (by rw [World.cell?_setCell_other _ _ _ _ (by simp)]; rw [World.cell?_setCell_other _ _ _ _ (by simp)]; exact c1)
  refine ⟨.tuple #[faultV 0 0, .bool false], ?_, rfl, ((B2.setCell (Nat.le_refl _) _).setCell (Nat.le_refl _) _).setCell (Nat.le_succ _) _⟩
  generalize (((w2.setCell ⟨w.heap.size, 0, none⟩ (.int .i64 0)).setCell ⟨w.heap.size, 1, none⟩ (.int .i64 0)).setCell ⟨w.heap.size + 1, 0, none⟩ (.bool false)) = W4 at *
  simp [results, Tryz.results42, go_sem, E0, E1, E9, faultV]
set_option maxRecDepth 100000 in
set_option maxHeartbeats 2000000 in
theorem find_FN (w : World) :
    Calls Tryz.prog 42 #[.nilIface] w (FoundIn (faultV 0 0) false w) := by
  have hmf : ∀ (fn : Fn) (first cap : Array Value) (w : World), (Instr.makeFunc fn first cap).run Tryz.prog w = .ok (.func fn first cap) w := fun _ _ _ _ => rfl
  go_enter_defers Tryz.func42, Tryz.ntmps42
  go_wp2
  refine wp_loop_rounds 1 ?_
  rw [rounds_succ]
  go_wp2_with fail
  obtain ⟨q0, q1, q2, hz, hb0⟩ := heap3 w (.cells #[.int .i64 0, .int .i64 0] 77) (.cells #[.bool false] 4) (.cells #[.int .i64 0, .int .i64 0] 77)
  generalize ((w.alloc (.cells #[.int .i64 0, .int .i64 0] 77)).alloc (.cells #[.bool false] 4)).alloc (.cells #[.int .i64 0, .int .i64 0] 77) = W at *
  refine (ends_any 0 .nilIface W (by omega) rfl).mono ?_
  rintro e w1 ⟨rfl, hb1⟩
  have B1 := hb0.trans (hb1.mono hb0.size)
  have r0 := hb1.block (w.heap.size) (by omega)
  have r1 := hb1.block (w.heap.size + 1) (by omega)
  have r2 := hb1.block (w.heap.size + 1 + 1) (by omega)
  rw [q0] at r0; rw [q1] at r1; rw [q2] at r2
  have hz1 := hb1.size
  have Hz := Lib.hid hz
  clear q0 q1 q2 hz
  have H0 := Lib.hid r0
  have H1 := Lib.hid r1
  have H2 := Lib.hid r2
  clear r0 r1 r2
  go_wp2_with fail
  refine (as_nil _ _).mono ?_
  rintro e w2 ⟨rfl, rfl⟩
  have c1 : w1.cell? ⟨w.heap.size + 1, 0, none⟩ = some (.bool false) := by rw [(cells_of H1.out).1]; rfl
  have g1 : w1.frozen? ⟨w.heap.size + 1, 0, none⟩ = false := (cells_of H1.out).2 _
  have c00 : w1.cell? ⟨w.heap.size, 0, none⟩ = some (.int .i64 0) := by rw [(cells_of H0.out).1]; rfl
  have g00 : w1.frozen? ⟨w.heap.size, 0, none⟩ = false := (cells_of H0.out).2 _
  have c20 : w1.cell? ⟨w.heap.size + 1 + 1, 0, none⟩ = some (.int .i64 0) := by rw [(cells_of H2.out).1]; rfl
  have c01 : w1.cell? ⟨w.heap.size, 1, none⟩ = some (.int .i64 0) := by rw [(cells_of H0.out).1]; rfl
  have g01 : w1.frozen? ⟨w.heap.size, 1, none⟩ = false := (cells_of H0.out).2 _
  have c21 : w1.cell? ⟨w.heap.size + 1 + 1, 1, none⟩ = some (.int .i64 0) := by rw [(cells_of H2.out).1]; rfl
  go_wp2
  refine leaves_cons (f := 52) (args := #[.pointer (some ⟨w.heap.size + 1 + 1, 0, none⟩), .pointer (some ⟨w.heap.size, 0, none⟩), .pointer (some ⟨w.heap.size + 1, 0, none⟩)]) (by simp) (by simp [go_sem]) ?_
  refine (idleF _ _ _ _).mono ?_
  rintro e u' w'' ⟨rfl, rfl, rfl⟩
  have E0 : (((w1.setCell ⟨w.heap.size, 0, none⟩ (.int .i64 0)).setCell ⟨w.heap.size, 1, none⟩ (.int .i64 0)).setCell ⟨w.heap.size + 1, 0, none⟩ (.bool false)).cell? ⟨w.heap.size, 0, none⟩ = some (.int .i64 0) := by rw [World.cell?_setCell_other _ _ _ _ (by simp)]; rw [World.cell?_setCell_other _ _ _ _ (by simp)]; exact World.cell?_setCell_same _ _ _ (c00)
  have E1 : (((w1.setCell ⟨w.heap.size, 0, none⟩ (.int .i64 0)).setCell ⟨w.heap.size, 1, none⟩ (.int .i64 0)).setCell ⟨w.heap.size + 1, 0, none⟩ (.bool false)).cell? ⟨w.heap.size, 1, none⟩ = some (.int .i64 0) := by rw [World.cell?_setCell_other _ _ _ _ (by simp)]; exact World.cell?_setCell_same _ _ _ (by rw [World.cell?_setCell_other _ _ _ _ (by simp)]; exact c01)
  have E9 : (((w1.setCell ⟨w.heap.size, 0, none⟩ (.int .i64 0)).setCell ⟨w.heap.size, 1, none⟩ (.int .i64 0)).setCell ⟨w.heap.size + 1, 0, none⟩ (.bool false)).cell? ⟨w.heap.size + 1, 0, none⟩ = some (.bool false) := World.cell?_setCell_same _ _ _ (by rw [World.cell?_setCell_other _ _ _ _ (by simp)]; rw [World.cell?_setCell_other _ _ _ _ (by simp)]; exact c1)
  refine ⟨.tuple #[faultV 0 0, .bool false], ?_, rfl, ((B1.setCell (Nat.le_refl _) _).setCell (Nat.le_refl _) _).setCell (Nat.le_succ _) _⟩
  generalize (((w1.setCell ⟨w.heap.size, 0, none⟩ (.int .i64 0)).setCell ⟨w.heap.size, 1, none⟩ (.int .i64 0)).setCell ⟨w.heap.size + 1, 0, none⟩ (.bool false)) = W4 at *
  simp [results, Tryz.results42, go_sem, E0, E1, E9, faultV]
set_option maxRecDepth 100000 in
set_option maxHeartbeats 2000000 in
theorem find_SS (ps : List ByteArray) (v : Value) (s : Int) (w : World) (hg : ErrType w) (hps : ps.length ≤ 500) (hc : Chn w ps (baseS s) v) :
    Calls Tryz.prog 41 #[v] w (FoundIn (.int .i64 s) true w) := by
  have hmf : ∀ (fn : Fn) (first cap : Array Value) (w : World), (Instr.makeFunc fn first cap).run Tryz.prog w = .ok (.func fn first cap) w := fun _ _ _ _ => rfl
  go_enter_defers Tryz.func41, Tryz.ntmps41
  go_wp2
  refine wp_loop_rounds 1 ?_
  rw [rounds_succ]
  go_wp2_with fail
  obtain ⟨q0, q1, q2, hz, hb0⟩ := heap3 w (.cells #[.int .i64 0] 49) (.cells #[.bool false] 4) (.cells #[.int .i64 0] 49)
  generalize ((w.alloc (.cells #[.int .i64 0] 49)).alloc (.cells #[.bool false] 4)).alloc (.cells #[.int .i64 0] 49) = W at *
  refine (ends_any (ps.length + 1) v W (by omega) (Lnk.ofS (hc.below hb0))).mono ?_
  rintro e w1 ⟨rfl, hb1⟩
  have B1 := hb0.trans (hb1.mono hb0.size)
  have r0 := hb1.block (w.heap.size) (by omega)
  have r1 := hb1.block (w.heap.size + 1) (by omega)
  have r2 := hb1.block (w.heap.size + 1 + 1) (by omega)
  rw [q0] at r0; rw [q1] at r1; rw [q2] at r2
  have hz1 := hb1.size
  have Hz := Lib.hid hz
  clear q0 q1 q2 hz
  have H0 := Lib.hid r0
  have H1 := Lib.hid r1
  have H2 := Lib.hid r2
  clear r0 r1 r2
  go_wp2_with fail
  refine (As_SS ps v w.heap.size s (.int .i64 0) w1 (hg.below B1) (hc.below B1) (by rw [(cells_of H0.out).1]; rfl) ((cells_of H0.out).2 _) ).mono ?_
  rintro e w2 ⟨rfl, hw⟩
  have hz2 := hw.1.size
  have B2 : Below w.heap.size w w2 := ⟨hw.1.os.trans B1.os, hw.1.tape.trans B1.tape, hw.1.output.trans B1.output, Nat.le_trans B1.size hz2, fun k hk => (hw.1.block k (Nat.lt_of_lt_of_le hk B1.size) (by simp; omega)).trans (B1.block k hk)⟩
  have M1 := Lib.hid ((hw.1.block (w.heap.size + 1) (by have := Hz.out; omega) (by simp)).trans H1.out)
  have hlt2 : w.heap.size + 1 < w2.heap.size := by have := Hz.out; omega
  have d0 : w2.cell? ⟨w.heap.size, 0, none⟩ = some (.int .i64 s) := hw.2.2 0 _ rfl
  have f0 : w2.frozen? ⟨w.heap.size, 0, none⟩ = false := (hw.2.1 0).trans ((cells_of H0.out).2 _)
  go_wp2_with fail
  refine (Is_SS ps v s w2 (hc.below B2)).mono ?_
  rintro e w3 ⟨rfl, hb3⟩
  have B3 := B2.trans (hb3.mono B2.size)
  have m1 : w3.heap[w.heap.size + 1]? = some (.cells #[.bool false] 4 (0, 0)) := (hb3.block _ hlt2).trans M1.out
  have c1 : w3.cell? ⟨w.heap.size + 1, 0, none⟩ = some (.bool false) := by rw [(cells_of m1).1]; rfl
  have g1 : w3.frozen? ⟨w.heap.size + 1, 0, none⟩ = false := (cells_of m1).2 _
  have c00 : w3.cell? ⟨w.heap.size, 0, none⟩ = some (.int .i64 s) := by rw [hb3.cell (p := ⟨w.heap.size, 0, none⟩) (by show w.heap.size < _; omega)]; exact d0
  have g00 : w3.frozen? ⟨w.heap.size, 0, none⟩ = false := by rw [hb3.frozen (p := ⟨w.heap.size, 0, none⟩) (by show w.heap.size < _; omega)]; exact f0
  have M3 := Lib.hid m1
  clear m1 d0 f0
  go_wp2
  refine leaves_cons (f := 49) (args := #[.pointer (some ⟨w.heap.size + 1 + 1, 0, none⟩), .pointer (some ⟨w.heap.size, 0, none⟩), .pointer (some ⟨w.heap.size + 1, 0, none⟩)]) (by simp) (by simp [go_sem]) ?_
  refine (idleS _ _ _ _).mono ?_
  rintro e u' w'' ⟨rfl, rfl, rfl⟩
  have E0 : ((w3.setCell ⟨w.heap.size, 0, none⟩ (.int .i64 s)).setCell ⟨w.heap.size + 1, 0, none⟩ (.bool true)).cell? ⟨w.heap.size, 0, none⟩ = some (.int .i64 s) := by rw [World.cell?_setCell_other _ _ _ _ (by simp)]; exact World.cell?_setCell_same _ _ _ (c00)
  have E9 : ((w3.setCell ⟨w.heap.size, 0, none⟩ (.int .i64 s)).setCell ⟨w.heap.size + 1, 0, none⟩ (.bool true)).cell? ⟨w.heap.size + 1, 0, none⟩ = some (.bool true) := World.cell?_setCell_same _ _ _ (by rw [World.cell?_setCell_other _ _ _ _ (by simp)]; exact c1)
  refine ⟨.tuple #[.int .i64 s, .bool true], ?_, rfl, (B3.setCell (Nat.le_refl _) _).setCell (Nat.le_succ _) _⟩
  generalize ((w3.setCell ⟨w.heap.size, 0, none⟩ (.int .i64 s)).setCell ⟨w.heap.size + 1, 0, none⟩ (.bool true)) = W4 at *
  simp [results, Tryz.results41, go_sem, E0, E9]
set_option maxRecDepth 100000 in
set_option maxHeartbeats 2000000 in
theorem find_SF (ps : List ByteArray) (v : Value) (s n : Int) (w : World) (hg : ErrType w) (hps : ps.length ≤ 500) (hc : Chn w ps (baseF s n) v) :
    Calls Tryz.prog 41 #[v] w (FoundIn (.int .i64 s) true w) := by
  have hmf : ∀ (fn : Fn) (first cap : Array Value) (w : World), (Instr.makeFunc fn first cap).run Tryz.prog w = .ok (.func fn first cap) w := fun _ _ _ _ => rfl
  go_enter_defers Tryz.func41, Tryz.ntmps41
  go_wp2
  refine wp_loop_rounds 1 ?_
  rw [rounds_succ]
  go_wp2_with fail
  obtain ⟨q0, q1, q2, hz, hb0⟩ := heap3 w (.cells #[.int .i64 0] 49) (.cells #[.bool false] 4) (.cells #[.int .i64 0] 49)
  generalize ((w.alloc (.cells #[.int .i64 0] 49)).alloc (.cells #[.bool false] 4)).alloc (.cells #[.int .i64 0] 49) = W at *
  refine (ends_any (ps.length + 2) v W (by omega) (Lnk.ofF (hc.below hb0))).mono ?_
  rintro e w1 ⟨rfl, hb1⟩
  have B1 := hb0.trans (hb1.mono hb0.size)
  have r0 := hb1.block (w.heap.size) (by omega)
  have r1 := hb1.block (w.heap.size + 1) (by omega)
  have r2 := hb1.block (w.heap.size + 1 + 1) (by omega)
  rw [q0] at r0; rw [q1] at r1; rw [q2] at r2
  have hz1 := hb1.size
  have Hz := Lib.hid hz
  clear q0 q1 q2 hz
  have H0 := Lib.hid r0
  have H1 := Lib.hid r1
  have H2 := Lib.hid r2
  clear r0 r1 r2
  go_wp2_with fail
  refine (As_SF ps v w.heap.size s n (.int .i64 0) w1 (hg.below B1) (hc.below B1) (by rw [(cells_of H0.out).1]; rfl) ((cells_of H0.out).2 _) ).mono ?_
  rintro e w2 ⟨rfl, hw⟩
  have hz2 := hw.1.size
  have B2 : Below w.heap.size w w2 := ⟨hw.1.os.trans B1.os, hw.1.tape.trans B1.tape, hw.1.output.trans B1.output, Nat.le_trans B1.size hz2, fun k hk => (hw.1.block k (Nat.lt_of_lt_of_le hk B1.size) (by simp; omega)).trans (B1.block k hk)⟩
  have M1 := Lib.hid ((hw.1.block (w.heap.size + 1) (by have := Hz.out; omega) (by simp)).trans H1.out)
  have hlt2 : w.heap.size + 1 < w2.heap.size := by have := Hz.out; omega
  have d0 : w2.cell? ⟨w.heap.size, 0, none⟩ = some (.int .i64 s) := hw.2.2 0 _ rfl
  have f0 : w2.frozen? ⟨w.heap.size, 0, none⟩ = false := (hw.2.1 0).trans ((cells_of H0.out).2 _)
  go_wp2_with fail
  refine (Is_SF ps v s n w2 (hc.below B2)).mono ?_
  rintro e w3 ⟨rfl, hb3⟩
  have B3 := B2.trans (hb3.mono B2.size)
  have m1 : w3.heap[w.heap.size + 1]? = some (.cells #[.bool false] 4 (0, 0)) := (hb3.block _ hlt2).trans M1.out
  have c1 : w3.cell? ⟨w.heap.size + 1, 0, none⟩ = some (.bool false) := by rw [(cells_of m1).1]; rfl
  have g1 : w3.frozen? ⟨w.heap.size + 1, 0, none⟩ = false := (cells_of m1).2 _
  have c00 : w3.cell? ⟨w.heap.size, 0, none⟩ = some (.int .i64 s) := by rw [hb3.cell (p := ⟨w.heap.size, 0, none⟩) (by show w.heap.size < _; omega)]; exact d0
  have g00 : w3.frozen? ⟨w.heap.size, 0, none⟩ = false := by rw [hb3.frozen (p := ⟨w.heap.size, 0, none⟩) (by show w.heap.size < _; omega)]; exact f0
  have M3 := Lib.hid m1
  clear m1 d0 f0
  go_wp2
  refine leaves_cons (f := 49) (args := #[.pointer (some ⟨w.heap.size + 1 + 1, 0, none⟩), .pointer (some ⟨w.heap.size, 0, none⟩), .pointer (some ⟨w.heap.size + 1, 0, none⟩)]) (by simp) (by simp [go_sem]) ?_
  refine (idleS _ _ _ _).mono ?_
  rintro e u' w'' ⟨rfl, rfl, rfl⟩
  have E0 : ((w3.setCell ⟨w.heap.size, 0, none⟩ (.int .i64 s)).setCell ⟨w.heap.size + 1, 0, none⟩ (.bool true)).cell? ⟨w.heap.size, 0, none⟩ = some (.int .i64 s) := by rw [World.cell?_setCell_other _ _ _ _ (by simp)]; exact World.cell?_setCell_same _ _ _ (c00)
  have E9 : ((w3.setCell ⟨w.heap.size, 0, none⟩ (.int .i64 s)).setCell ⟨w.heap.size + 1, 0, none⟩ (.bool true)).cell? ⟨w.heap.size + 1, 0, none⟩ = some (.bool true) := World.cell?_setCell_same _ _ _ (by rw [World.cell?_setCell_other _ _ _ _ (by simp)]; exact c1)
  refine ⟨.tuple #[.int .i64 s, .bool true], ?_, rfl, (B3.setCell (Nat.le_refl _) _).setCell (Nat.le_succ _) _⟩
  generalize ((w3.setCell ⟨w.heap.size, 0, none⟩ (.int .i64 s)).setCell ⟨w.heap.size + 1, 0, none⟩ (.bool true)) = W4 at *
  simp [results, Tryz.results41, go_sem, E0, E9]
set_option maxRecDepth 100000 in
set_option maxHeartbeats 2000000 in
theorem find_SN (w : World) :
    Calls Tryz.prog 41 #[.nilIface] w (FoundIn (.int .i64 0) false w) := by
  have hmf : ∀ (fn : Fn) (first cap : Array Value) (w : World), (Instr.makeFunc fn first cap).run Tryz.prog w = .ok (.func fn first cap) w := fun _ _ _ _ => rfl
  go_enter_defers Tryz.func41, Tryz.ntmps41
  go_wp2
  refine wp_loop_rounds 1 ?_
  rw [rounds_succ]
  go_wp2_with fail
  obtain ⟨q0, q1, q2, hz, hb0⟩ := heap3 w (.cells #[.int .i64 0] 49) (.cells #[.bool false] 4) (.cells #[.int .i64 0] 49)
  generalize ((w.alloc (.cells #[.int .i64 0] 49)).alloc (.cells #[.bool false] 4)).alloc (.cells #[.int .i64 0] 49) = W at *
  refine (ends_any 0 .nilIface W (by omega) rfl).mono ?_
  rintro e w1 ⟨rfl, hb1⟩
  have B1 := hb0.trans (hb1.mono hb0.size)
  have r0 := hb1.block (w.heap.size) (by omega)
  have r1 := hb1.block (w.heap.size + 1) (by omega)
  have r2 := hb1.block (w.heap.size + 1 + 1) (by omega)
  rw [q0] at r0; rw [q1] at r1; rw [q2] at r2
  have hz1 := hb1.size
  have Hz := Lib.hid hz
  clear q0 q1 q2 hz
  have H0 := Lib.hid r0
  have H1 := Lib.hid r1
  have H2 := Lib.hid r2
  clear r0 r1 r2
  go_wp2_with fail
  refine (as_nil _ _).mono ?_
  rintro e w2 ⟨rfl, rfl⟩
  have c1 : w1.cell? ⟨w.heap.size + 1, 0, none⟩ = some (.bool false) := by rw [(cells_of H1.out).1]; rfl
  have g1 : w1.frozen? ⟨w.heap.size + 1, 0, none⟩ = false := (cells_of H1.out).2 _
  have c00 : w1.cell? ⟨w.heap.size, 0, none⟩ = some (.int .i64 0) := by rw [(cells_of H0.out).1]; rfl
  have g00 : w1.frozen? ⟨w.heap.size, 0, none⟩ = false := (cells_of H0.out).2 _
  have c20 : w1.cell? ⟨w.heap.size + 1 + 1, 0, none⟩ = some (.int .i64 0) := by rw [(cells_of H2.out).1]; rfl
  go_wp2
  refine leaves_cons (f := 49) (args := #[.pointer (some ⟨w.heap.size + 1 + 1, 0, none⟩), .pointer (some ⟨w.heap.size, 0, none⟩), .pointer (some ⟨w.heap.size + 1, 0, none⟩)]) (by simp) (by simp [go_sem]) ?_
  refine (idleS _ _ _ _).mono ?_
  rintro e u' w'' ⟨rfl, rfl, rfl⟩
  have E0 : ((w1.setCell ⟨w.heap.size, 0, none⟩ (.int .i64 0)).setCell ⟨w.heap.size + 1, 0, none⟩ (.bool false)).cell? ⟨w.heap.size, 0, none⟩ = some (.int .i64 0) := by rw [World.cell?_setCell_other _ _ _ _ (by simp)]; exact World.cell?_setCell_same _ _ _ (c00)
  have E9 : ((w1.setCell ⟨w.heap.size, 0, none⟩ (.int .i64 0)).setCell ⟨w.heap.size + 1, 0, none⟩ (.bool false)).cell? ⟨w.heap.size + 1, 0, none⟩ = some (.bool false) := World.cell?_setCell_same _ _ _ (by rw [World.cell?_setCell_other _ _ _ _ (by simp)]; exact c1)
  refine ⟨.tuple #[.int .i64 0, .bool false], ?_, rfl, (B1.setCell (Nat.le_refl _) _).setCell (Nat.le_succ _) _⟩
  generalize ((w1.setCell ⟨w.heap.size, 0, none⟩ (.int .i64 0)).setCell ⟨w.heap.size + 1, 0, none⟩ (.bool false)) = W4 at *
  simp [results, Tryz.results41, go_sem, E0, E9]
end Go.Proofs.YtbjfdakanhaagaaGreatDoor

/-! ## FltK -/
/- Errors of package fault: the contracts of fault.New, fault.In, fault.Status, fault.At and fault.Move. -/
namespace Go.Proofs.YtbjfdakanhaagaaGreatDoor
open Go.RowKit Go.Extern.Stop Go.Stop Go.Extern

theorem new_any (s n : Int) (w : World) :
    Calls Tryz.prog 21 #[.int .i64 s, .int .i64 n] w fun e w' => e = .returned (baseF s n) ∧ w = w' := by
  unfold baseF
  go_enter Tryz.func21, Tryz.ntmps21
  go_wp2
  go_ret
  exact ⟨rfl, rfl⟩
theorem status_F (ps : List ByteArray) (v : Value) (s n : Int) (w : World) (hg : ErrType w) (hps : ps.length ≤ 500) (hc : Chn w ps (baseF s n) v) :
    Calls Tryz.prog 26 #[v] w (FoundIn (.int .i64 s) true w) := by
  go_enter Tryz.func26, Tryz.ntmps26
  go_wp2_with (go_at_call 41; refine (find_SF ps _ s n _ hg hps hc).mono ?_; rintro e w' ⟨rfl, hw⟩)
  go_ret2
  exact ⟨rfl, hw⟩

theorem at_F (ps : List ByteArray) (v : Value) (s n : Int) (w : World) (hg : ErrType w) (hps : ps.length ≤ 500) (hc : Chn w ps (baseF s n) v) :
    Calls Tryz.prog 27 #[v] w (FoundIn (.int .i64 n) true w) := by
  go_enter Tryz.func27, Tryz.ntmps27
  go_wp2_with (go_at_call 42; refine (find_FF ps _ s n _ hg hps hc).mono ?_; unfold faultV; rintro e w' ⟨rfl, hw⟩)
  go_ret2
  exact ⟨rfl, hw.alloc hw.size _⟩

theorem status_S (ps : List ByteArray) (v : Value) (s : Int) (w : World) (hg : ErrType w) (hps : ps.length ≤ 500) (hc : Chn w ps (baseS s) v) :
    Calls Tryz.prog 26 #[v] w (FoundIn (.int .i64 s) true w) := by
  go_enter Tryz.func26, Tryz.ntmps26
  go_wp2_with (go_at_call 41; refine (find_SS ps _ s _ hg hps hc).mono ?_; rintro e w' ⟨rfl, hw⟩)
  go_ret2
  exact ⟨rfl, hw⟩

theorem at_S (ps : List ByteArray) (v : Value) (s : Int) (w : World) (hg : ErrType w) (hps : ps.length ≤ 500) (hc : Chn w ps (baseS s) v) :
    Calls Tryz.prog 27 #[v] w (FoundIn (.int .i64 0) false w) := by
  go_enter Tryz.func27, Tryz.ntmps27
  go_wp2_with (go_at_call 42; refine (find_FS ps _ s _ hg hps hc).mono ?_; unfold faultV; rintro e w' ⟨rfl, hw⟩)
  go_ret2
  exact ⟨rfl, hw.alloc hw.size _⟩

theorem status_N (w : World) :
    Calls Tryz.prog 26 #[.nilIface] w (FoundIn (.int .i64 0) false w) := by
  go_enter Tryz.func26, Tryz.ntmps26
  go_wp2_with (go_at_call 41; refine (find_SN _).mono ?_; rintro e w' ⟨rfl, hw⟩)
  go_ret2
  exact ⟨rfl, hw⟩

theorem at_N (w : World) :
    Calls Tryz.prog 27 #[.nilIface] w (FoundIn (.int .i64 0) false w) := by
  go_enter Tryz.func27, Tryz.ntmps27
  go_wp2_with (go_at_call 42; refine (find_FN _).mono ?_; unfold faultV; rintro e w' ⟨rfl, hw⟩)
  go_ret2
  exact ⟨rfl, hw.alloc hw.size _⟩

end Go.Proofs.YtbjfdakanhaagaaGreatDoor
