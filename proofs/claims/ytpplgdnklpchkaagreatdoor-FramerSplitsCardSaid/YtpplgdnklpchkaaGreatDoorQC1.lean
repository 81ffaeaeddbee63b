/- Texts of one seat, merged: ErrA, ErrB, ErrC. -/
import Derived.Test.YtpplgdnklpchkaaGreatDoorProg
import Derived.WalkKit
import Derived.LaidEql
import Derived.Stop.Asserts
import Derived.RowKitTokens
import Derived.Outline
import Derived.Lib.Hide
import Derived.Deep.LoopGhost
namespace Go.Proofs.YtpplgdnklpchkaaGreatDoor
open Go.RowKit Go.Extern.Stop Go.Stop Go.Extern
theorem Tryz.unwrapS (v : Value) (xT : TypeId) (w : World) : (Instr.typeAssert (.iface 73 v) xT 159 true).run Tryz.prog w = .ok (.tuple #[.nilIface, .bool false]) w :=
 run_typeAssert_lacksB Tryz.underlying159 (by kernel_rfl) (by kernel_rfl) v xT w
theorem Tryz.unwrapF (v : Value) (xT : TypeId) (w : World) : (Instr.typeAssert (.iface 108 v) xT 159 true).run Tryz.prog w = .ok (.tuple #[.iface 108 v, .bool true]) w :=
 run_typeAssert_hasB Tryz.underlying159 (by kernel_rfl) v xT w
theorem Tryz.unwrapW (v : Value) (xT : TypeId) (w : World) : (Instr.typeAssert (.iface 208 v) xT 159 true).run Tryz.prog w = .ok (.tuple #[.iface 208 v, .bool true]) w :=
 run_typeAssert_hasB Tryz.underlying159 (by kernel_rfl) v xT w
theorem unwrap_status (v : Value) (w : World) :
  Calls Tryz.prog 68 #[.iface 73 v] w fun e w' => e = .returned .nilIface /\ w = w' := by
 have h1 := Tryz.unwrapS
 go_enter Tryz.func68, Tryz.ntmps68
 go_wp2
 go_ret
 exact ⟨rfl, rfl⟩
theorem Tryz.mUnwrapF (v : Value) (w : World) : (Go.method 387 108 v "Unwrap").run Tryz.prog w = .ok (213, v) w := by kernel_rfl
theorem Tryz.mUnwrapW (v : Value) (w : World) : (Go.method 387 208 v "Unwrap").run Tryz.prog w = .ok (229, v) w := by kernel_rfl
theorem unwrapF_any (s n : Int) (w : World) :
  Calls Tryz.prog 213 #[.agg #[.int .i64 s, .int .i64 n]] w fun e w' => e = .returned (.iface 73 (.int .i64 s)) /\ w' = w.alloc (.cells #[.int .i64 s, .int .i64 n] 108) := by
 go_enter Tryz.func213, Tryz.ntmps213
 go_wp2
 go_ret
 exact ⟨rfl, rfl⟩
theorem unwrapW_any (b : Nat) (inner : Value) (w : World) (hc : w.cell? ⟨b, 1, none⟩ = some inner) :
  Calls Tryz.prog 229 #[.pointer (some ⟨b, 0, none⟩)] w fun e w' => e = .returned inner /\ w = w' := by
 go_enter Tryz.func229, Tryz.ntmps229
 go_wp2
 go_ret
 exact ⟨rfl, rfl⟩
set_option maxRecDepth 100000 in
theorem unwrap_fault (s n : Int) (w : World) :
  Calls Tryz.prog 68 #[.iface 108 (.agg #[.int .i64 s, .int .i64 n])] w fun e w' => e = .returned (.iface 73 (.int .i64 s)) /\ w' = w.alloc (.cells #[.int .i64 s, .int .i64 n] 108) := by
 have h1 := Tryz.unwrapF
 have h2 := Tryz.mUnwrapF
 go_enter Tryz.func68, Tryz.ntmps68
 go_wp2_with (go_at_call 213; refine (unwrapF_any _ _ _).mono ?_; rintro e w' ⟨rfl, rfl⟩)
 go_ret
 exact ⟨rfl, rfl⟩
set_option maxRecDepth 100000 in
theorem unwrap_wrapped (b : Nat) (inner : Value) (w : World) (hc : w.cell? ⟨b, 1, none⟩ = some inner) :
  Calls Tryz.prog 68 #[.iface 208 (.pointer (some ⟨b, 0, none⟩))] w fun e w' => e = .returned inner /\ w = w' := by
 have h1 := Tryz.unwrapW
 have h2 := Tryz.mUnwrapW
 go_enter Tryz.func68, Tryz.ntmps68
 go_wp2_with (go_at_call 229; refine (unwrapW_any _ _ _ hc).mono ?_; rintro e w' ⟨rfl, rfl⟩)
 go_ret
 exact ⟨rfl, rfl⟩
end Go.Proofs.YtpplgdnklpchkaaGreatDoor
namespace Go.Proofs.YtpplgdnklpchkaaGreatDoor
open Go.RowKit Go.Extern.Stop Go.Stop Go.Extern
def Chn : World -> List ByteArray -> Value -> Value -> Prop
 | _, [], base, v => v = base
 | w, p :: ps, base, v => ∃ b inner, v = .iface 208 (.pointer (some ⟨b, 0, none⟩)) /\ w.cell? ⟨b, 0, none⟩ = some (.string p) /\ w.cell? ⟨b, 1, none⟩ = some inner /\ Chn w ps base inner
theorem block_of_cell {w : World} {b o : Nat} {v : Value} (h : w.cell? ⟨b, o, none⟩ = some v) : b < w.heap.size := by
 rcases Nat.lt_or_ge b w.heap.size with h' | h'
 ·exact h'
 ·simp [World.cell?, Array.getElem?_eq_none h'] at h
theorem Chn.below {w w' : World} (hb : Below w.heap.size w w') : ∀ {ps : List ByteArray} {base v : Value}, Chn w ps base v -> Chn w' ps base v
 | [], _, _, h => h
 | p :: ps, base, v, ⟨b, inner, h1, h2, h3, h4⟩ =>
  ⟨b, inner, h1, by rw [hb.cell (p := ⟨b, 0, none⟩) (block_of_cell h2)]; exact h2, by rw [hb.cell (p := ⟨b, 1, none⟩) (block_of_cell h2)]; exact h3, Chn.below hb h4⟩
def baseS (s : Int) : Value := .iface 73 (.int .i64 s)
def baseF (s n : Int) : Value := .iface 108 (.agg #[.int .i64 s, .int .i64 n])
def Lnk : Nat -> World -> Value -> Prop
 | 0, _, v => v = .nilIface
 | k + 1, w, v => (k = 0 /\ ∃ s, v = .iface 73 (.int .i64 s)) \/ (k = 1 /\ ∃ s n, v = .iface 108 (.agg #[.int .i64 s, .int .i64 n])) \/
   (∃ b inner, v = .iface 208 (.pointer (some ⟨b, 0, none⟩)) /\ w.cell? ⟨b, 1, none⟩ = some inner /\ Lnk k w inner)
theorem Lnk.below {w w' : World} (hb : Below w.heap.size w w') : ∀ {k : Nat} {v : Value}, Lnk k w v -> Lnk k w' v
 | 0, _, h => h
 | _ + 1, _, .inl h => .inl h
 | _ + 1, _, .inr (.inl h) => .inr (.inl h)
 | _ + 1, _, .inr (.inr ⟨b, inner, h1, h2, h3⟩) => .inr (.inr ⟨b, inner, h1, by rw [hb.cell (p := ⟨b, 1, none⟩) (block_of_cell h2)]; exact h2, Lnk.below hb h3⟩)
theorem Lnk.ofF {w : World} {s n : Int} : ∀ {ps : List ByteArray} {v : Value}, Chn w ps (baseF s n) v -> Lnk (ps.length + 2) w v
 | [], _, h => .inr (.inl ⟨rfl, s, n, h⟩)
 | _ :: _, _, ⟨b, inner, h1, _, h3, h4⟩ => .inr (.inr ⟨b, inner, h1, h3, Lnk.ofF h4⟩)
theorem Tryz.eqNil (v : Value) (t : TypeId) (w : World) : (binOp .eql 37 (.iface t v) .nilIface).run Tryz.prog w = .ok (.bool false) w :=
 run_eql_held_nil w 37 t v (by kernel_rfl)
def TrueBelow (w : World) (e : Ending) (w' : World) : Prop := e = .returned (.bool true) /\ Below w.heap.size w w'
set_option maxRecDepth 100000 in
set_option maxHeartbeats 1000000 in
theorem ends_any (k : Nat) (v : Value) (w : World) (hk : k <= 1000) (hl : Lnk k w v) :
  Calls Tryz.prog 66 #[v] w (TrueBelow w) := by
 have hq := Tryz.eqNil
 go_enter Tryz.func66, Tryz.ntmps66
 go_wp2
 go_loopg [0, 3] k (fun k v i wr => Lnk k wr v /\ Below w.heap.size w wr /\ ∃ j : Nat, i = .int .i64 j /\ j + k <= 1000)
 case atStart => exact ⟨hl, Below.refl _ _, 0, rfl, by omega⟩
 case round =>
  obtain ⟨hl, hb, j, rfl, hj⟩ := hrel
  have hlt : ((j : Int) < 1048576) = True := by simp only [eq_iff_iff, iff_true]; omega
  rcases gk with _ | k
  ·obtain rfl := hl
   go_wp2
   go_ret
   exact ⟨rfl, hb⟩
  ·rcases hl with ⟨rfl, s, rfl⟩ | ⟨rfl, s, n, rfl⟩ | ⟨b, inner, rfl, hc, hl⟩
   ·go_wp2_with (go_at_call 68; refine (unwrap_status _ _).mono ?_; rintro e w' ⟨rfl, rfl⟩)
    go_roundg 0
    case measure => omega
    case rel => exact ⟨rfl, hb, j + 1, by go_num, by omega⟩
   ·go_wp2_with (go_at_call 68; refine (unwrap_fault _ _ _).mono ?_; rintro e w' ⟨rfl, rfl⟩)
    go_roundg 1
    case measure => omega
    case rel => exact ⟨.inl ⟨rfl, s, rfl⟩, hb.alloc hb.size _, j + 1, by go_num, by omega⟩
   ·go_wp2_with (go_at_call 68; refine (unwrap_wrapped _ _ _ hc).mono ?_; rintro e w' ⟨rfl, rfl⟩)
    go_roundg k
    case measure => omega
    case rel => exact ⟨hl, hb, j + 1, by go_num, by omega⟩
end Go.Proofs.YtpplgdnklpchkaaGreatDoor
namespace Go.Proofs.YtpplgdnklpchkaaGreatDoor
open Go.RowKit Go.Extern.Stop Go.Stop Go.Extern
theorem Tryz.methodKind (h : Value) (w : World) : (Go.method 387 177 (.agg #[h]) "Kind").run Tryz.prog w = .ok (208, h) w := by kernel_rfl
theorem Tryz.methodElem (h : Value) (w : World) : (Go.method 387 177 (.agg #[h]) "Elem").run Tryz.prog w = .ok (220, .agg #[h]) w := by kernel_rfl
theorem Tryz.methodImplements (h : Value) (w : World) : (Go.method 387 177 (.agg #[h]) "Implements").run Tryz.prog w = .ok (221, .agg #[h]) w := by kernel_rfl
theorem Tryz.methodAssignableTo (h : Value) (w : World) : (Go.method 387 177 (.agg #[h]) "AssignableTo").run Tryz.prog w = .ok (218, .agg #[h]) w := by kernel_rfl
theorem Tryz.methodComparable (h : Value) (w : World) : (Go.method 387 177 (.agg #[h]) "Comparable").run Tryz.prog w = .ok (219, .agg #[h]) w := by kernel_rfl
theorem Tryz.typeOfW (v : Value) (w : World) : (ReflectliteType.typeOf #[.iface 208 v]).run Tryz.prog w = .ok (.iface 177 (.agg #[.pointer (some ⟨5, 208, none⟩)])) w := by kernel_rfl
theorem Tryz.assignableWF (w : World) : (ReflectliteType.relation "AssignableTo" ReflectliteType.assignableTo #[.agg #[.pointer (some ⟨5, 208, none⟩)], .iface 177 (.agg #[.pointer (some ⟨5, 108, none⟩)])]).run Tryz.prog w = .ok (.bool false) w := by kernel_rfl
theorem Tryz.assignableWS (w : World) : (ReflectliteType.relation "AssignableTo" ReflectliteType.assignableTo #[.agg #[.pointer (some ⟨5, 208, none⟩)], .iface 177 (.agg #[.pointer (some ⟨5, 73, none⟩)])]).run Tryz.prog w = .ok (.bool false) w := by kernel_rfl
theorem Tryz.typeOfF (v : Value) (w : World) : (ReflectliteType.typeOf #[.iface 108 v]).run Tryz.prog w = .ok (.iface 177 (.agg #[.pointer (some ⟨5, 108, none⟩)])) w := by kernel_rfl
theorem Tryz.assignableFF (w : World) : (ReflectliteType.relation "AssignableTo" ReflectliteType.assignableTo #[.agg #[.pointer (some ⟨5, 108, none⟩)], .iface 177 (.agg #[.pointer (some ⟨5, 108, none⟩)])]).run Tryz.prog w = .ok (.bool true) w := by kernel_rfl
theorem Tryz.assignableFS (w : World) : (ReflectliteType.relation "AssignableTo" ReflectliteType.assignableTo #[.agg #[.pointer (some ⟨5, 108, none⟩)], .iface 177 (.agg #[.pointer (some ⟨5, 73, none⟩)])]).run Tryz.prog w = .ok (.bool false) w := by kernel_rfl
theorem Tryz.typeOfS (v : Value) (w : World) : (ReflectliteType.typeOf #[.iface 73 v]).run Tryz.prog w = .ok (.iface 177 (.agg #[.pointer (some ⟨5, 73, none⟩)])) w := by kernel_rfl
theorem Tryz.assignableSS (w : World) : (ReflectliteType.relation "AssignableTo" ReflectliteType.assignableTo #[.agg #[.pointer (some ⟨5, 73, none⟩)], .iface 177 (.agg #[.pointer (some ⟨5, 73, none⟩)])]).run Tryz.prog w = .ok (.bool true) w := by kernel_rfl
theorem Tryz.valueOfPF (t : Addr) (w : World) : (ReflectliteValue.unpack (.iface 132 (.pointer (some t)))).run Tryz.prog w
  = .ok (.agg #[.pointer (some ⟨5, 132, none⟩), .pointer (some ⟨w.heap.size, 0, none⟩), .int .u64 150]) (w.alloc (.cells #[.pointer (some t)] 132)) := by kernel_rfl
theorem Tryz.typePF (a : Addr) (w : World) : (ReflectliteValue.methodAny (ReflectliteValue.valueError "reflectlite.Value.Type" 0) (fun t _ _ _ => ReflectliteType.toType t) #[.agg #[.pointer (some ⟨5, 132, none⟩), .pointer (some a), .int .u64 150]]).run Tryz.prog w
  = .ok (.iface 177 (.agg #[.pointer (some ⟨5, 132, none⟩)])) w := by kernel_rfl
theorem Tryz.kindPF (w : World) : ((ReflectliteType.abiMethod fun t => (fun a : Nat => Value.int IntKind.u8 (a : Int)) <$> Rtype.kind t) #[.pointer (some ⟨5, 132, none⟩)]).run Tryz.prog w = .ok (.int .u8 22) w := by kernel_rfl
theorem Tryz.kindEF (w : World) : ((ReflectliteType.abiMethod fun t => (fun a : Nat => Value.int IntKind.u8 (a : Int)) <$> Rtype.kind t) #[.pointer (some ⟨5, 108, none⟩)]).run Tryz.prog w = .ok (.int .u8 25) w := by kernel_rfl
theorem Tryz.partsPF (a : Addr) (w : World) : (ReflectliteValue.parts (.agg #[.pointer (some ⟨5, 132, none⟩), .pointer (some a), .int .u64 150])).run Tryz.prog w = .ok (some (132, a, 150)) w := by kernel_rfl
theorem Tryz.isNilPF (a p : Addr) (W : World) (ha : W.cell? a = some (.pointer (some p))) :
  (ReflectliteValue.method (ReflectliteValue.valueError "reflectlite.Value.IsNil" 0) ReflectliteValue.isNil #[.agg #[.pointer (some ⟨5, 132, none⟩), .pointer (some a), .int .u64 150]]).run Tryz.prog W = .ok (.bool false) W := by
 show (ReflectliteValue.parts (.agg #[.pointer (some ⟨5, 132, none⟩), .pointer (some a), .int .u64 150]) >>= _ : Sem Value).run Tryz.prog W = _
 simp only [Sem.run_bind, Tryz.partsPF, Result.andThen]
 simp [ReflectliteValue.isNil, loadVar, isAgg, underlying, Tryz.underlying132, ha, Result.andThen]
theorem Tryz.elemPF (w : World) : (ReflectliteType.method ReflectliteType.elem #[.agg #[.pointer (some ⟨5, 132, none⟩)]]).run Tryz.prog w = .ok (.iface 177 (.agg #[.pointer (some ⟨5, 108, none⟩)])) w := by kernel_rfl
theorem Tryz.implementsEF (w : World) : (ReflectliteType.relation "Implements" ReflectliteType.implements_ #[.agg #[.pointer (some ⟨5, 108, none⟩)], .iface 177 (.agg #[.pointer (some ⟨5, 37, none⟩)])]).run Tryz.prog w = .ok (.bool true) w := by kernel_rfl
theorem Tryz.valueOfEF (s n : Int) (w : World) : (ReflectliteValue.unpack (.iface 108 (.agg #[.int .i64 s, .int .i64 n]))).run Tryz.prog w
  = .ok (.agg #[.pointer (some ⟨5, 108, none⟩), .pointer (some ⟨w.heap.size, 0, none⟩), .int .u64 153]) (w.alloc (.cells #[.int .i64 s, .int .i64 n] 108)) := by kernel_rfl
theorem Tryz.elemOfPF (w : World) : (Rtype.elem? 132).run Tryz.prog w = .ok (some 108) w := by kernel_rfl
theorem Tryz.mkEF (p : Addr) (w : World) : (ReflectliteValue.mk 108 p ReflectliteValue.flagAddr).run Tryz.prog w = .ok (.agg #[.pointer (some ⟨5, 108, none⟩), .pointer (some p), .int .u64 409]) w := by kernel_rfl
theorem Tryz.elemVPF (a p : Addr) (W : World) (ha : W.cell? a = some (.pointer (some p))) :
  (ReflectliteValue.method (ReflectliteValue.valueError "reflectlite.Value.Elem" 0) ReflectliteValue.elem #[.agg #[.pointer (some ⟨5, 132, none⟩), .pointer (some a), .int .u64 150]]).run Tryz.prog W
   = .ok (.agg #[.pointer (some ⟨5, 108, none⟩), .pointer (some p), .int .u64 409]) W := by
 show (ReflectliteValue.parts (.agg #[.pointer (some ⟨5, 132, none⟩), .pointer (some a), .int .u64 150]) >>= _ : Sem Value).run Tryz.prog W = _
 simp only [Sem.run_bind, Tryz.partsPF, Result.andThen]
 simp [ReflectliteValue.elem, loadVar, isAgg, underlying, Tryz.underlying132, ha, Result.andThen, Tryz.elemOfPF, Tryz.mkEF]
theorem Tryz.partsEaF (a : Addr) (w : World) : (ReflectliteValue.parts (.agg #[.pointer (some ⟨5, 108, none⟩), .pointer (some a), .int .u64 409])).run Tryz.prog w = .ok (some (108, a, 409)) w := by kernel_rfl
theorem Tryz.partsEF (a : Addr) (w : World) : (ReflectliteValue.parts (.agg #[.pointer (some ⟨5, 108, none⟩), .pointer (some a), .int .u64 153])).run Tryz.prog w = .ok (some (108, a, 153)) w := by kernel_rfl
theorem Tryz.directEF (w : World) : (Rtype.directlyAssignable 108 108).run Tryz.prog w = .ok true w := by kernel_rfl
theorem Tryz.valueOfPS (t : Addr) (w : World) : (ReflectliteValue.unpack (.iface 127 (.pointer (some t)))).run Tryz.prog w
  = .ok (.agg #[.pointer (some ⟨5, 127, none⟩), .pointer (some ⟨w.heap.size, 0, none⟩), .int .u64 150]) (w.alloc (.cells #[.pointer (some t)] 127)) := by kernel_rfl
theorem Tryz.typePS (a : Addr) (w : World) : (ReflectliteValue.methodAny (ReflectliteValue.valueError "reflectlite.Value.Type" 0) (fun t _ _ _ => ReflectliteType.toType t) #[.agg #[.pointer (some ⟨5, 127, none⟩), .pointer (some a), .int .u64 150]]).run Tryz.prog w
  = .ok (.iface 177 (.agg #[.pointer (some ⟨5, 127, none⟩)])) w := by kernel_rfl
theorem Tryz.kindPS (w : World) : ((ReflectliteType.abiMethod fun t => (fun a : Nat => Value.int IntKind.u8 (a : Int)) <$> Rtype.kind t) #[.pointer (some ⟨5, 127, none⟩)]).run Tryz.prog w = .ok (.int .u8 22) w := by kernel_rfl
theorem Tryz.kindES (w : World) : ((ReflectliteType.abiMethod fun t => (fun a : Nat => Value.int IntKind.u8 (a : Int)) <$> Rtype.kind t) #[.pointer (some ⟨5, 73, none⟩)]).run Tryz.prog w = .ok (.int .u8 2) w := by kernel_rfl
theorem Tryz.partsPS (a : Addr) (w : World) : (ReflectliteValue.parts (.agg #[.pointer (some ⟨5, 127, none⟩), .pointer (some a), .int .u64 150])).run Tryz.prog w = .ok (some (127, a, 150)) w := by kernel_rfl
theorem Tryz.isNilPS (a p : Addr) (W : World) (ha : W.cell? a = some (.pointer (some p))) :
  (ReflectliteValue.method (ReflectliteValue.valueError "reflectlite.Value.IsNil" 0) ReflectliteValue.isNil #[.agg #[.pointer (some ⟨5, 127, none⟩), .pointer (some a), .int .u64 150]]).run Tryz.prog W = .ok (.bool false) W := by
 show (ReflectliteValue.parts (.agg #[.pointer (some ⟨5, 127, none⟩), .pointer (some a), .int .u64 150]) >>= _ : Sem Value).run Tryz.prog W = _
 simp only [Sem.run_bind, Tryz.partsPS, Result.andThen]
 simp [ReflectliteValue.isNil, loadVar, isAgg, underlying, Tryz.underlying127, ha, Result.andThen]
theorem Tryz.elemPS (w : World) : (ReflectliteType.method ReflectliteType.elem #[.agg #[.pointer (some ⟨5, 127, none⟩)]]).run Tryz.prog w = .ok (.iface 177 (.agg #[.pointer (some ⟨5, 73, none⟩)])) w := by kernel_rfl
theorem Tryz.implementsES (w : World) : (ReflectliteType.relation "Implements" ReflectliteType.implements_ #[.agg #[.pointer (some ⟨5, 73, none⟩)], .iface 177 (.agg #[.pointer (some ⟨5, 37, none⟩)])]).run Tryz.prog w = .ok (.bool true) w := by kernel_rfl
theorem Tryz.valueOfES (s : Int) (w : World) : (ReflectliteValue.unpack (.iface 73 (.int .i64 s))).run Tryz.prog w
  = .ok (.agg #[.pointer (some ⟨5, 73, none⟩), .pointer (some ⟨w.heap.size, 0, none⟩), .int .u64 130]) (w.alloc (.cells #[.int .i64 s] 73)) := by kernel_rfl
theorem Tryz.elemOfPS (w : World) : (Rtype.elem? 127).run Tryz.prog w = .ok (some 73) w := by kernel_rfl
theorem Tryz.mkES (p : Addr) (w : World) : (ReflectliteValue.mk 73 p ReflectliteValue.flagAddr).run Tryz.prog w = .ok (.agg #[.pointer (some ⟨5, 73, none⟩), .pointer (some p), .int .u64 386]) w := by kernel_rfl
theorem Tryz.elemVPS (a p : Addr) (W : World) (ha : W.cell? a = some (.pointer (some p))) :
  (ReflectliteValue.method (ReflectliteValue.valueError "reflectlite.Value.Elem" 0) ReflectliteValue.elem #[.agg #[.pointer (some ⟨5, 127, none⟩), .pointer (some a), .int .u64 150]]).run Tryz.prog W
   = .ok (.agg #[.pointer (some ⟨5, 73, none⟩), .pointer (some p), .int .u64 386]) W := by
 show (ReflectliteValue.parts (.agg #[.pointer (some ⟨5, 127, none⟩), .pointer (some a), .int .u64 150]) >>= _ : Sem Value).run Tryz.prog W = _
 simp only [Sem.run_bind, Tryz.partsPS, Result.andThen]
 simp [ReflectliteValue.elem, loadVar, isAgg, underlying, Tryz.underlying127, ha, Result.andThen, Tryz.elemOfPS, Tryz.mkES]
theorem Tryz.partsEaS (a : Addr) (w : World) : (ReflectliteValue.parts (.agg #[.pointer (some ⟨5, 73, none⟩), .pointer (some a), .int .u64 386])).run Tryz.prog w = .ok (some (73, a, 386)) w := by kernel_rfl
theorem Tryz.partsES (a : Addr) (w : World) : (ReflectliteValue.parts (.agg #[.pointer (some ⟨5, 73, none⟩), .pointer (some a), .int .u64 130])).run Tryz.prog w = .ok (some (73, a, 130)) w := by kernel_rfl
theorem Tryz.directES (w : World) : (Rtype.directlyAssignable 73 73).run Tryz.prog w = .ok true w := by kernel_rfl
end Go.Proofs.YtpplgdnklpchkaaGreatDoor
