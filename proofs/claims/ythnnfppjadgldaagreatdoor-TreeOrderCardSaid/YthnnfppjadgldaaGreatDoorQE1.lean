/- Texts of one seat, merged: FltA, FltB. -/
import Derived.Test.YthnnfppjadgldaaGreatDoorProg
import Derived.WalkKit
import Derived.LaidEql
import Derived.Stop.Asserts
import Derived.RowKitTokens
import Derived.Outline
import Derived.Lib.Hide
import Derived.Deep.LoopGhost
namespace Go.Proofs.YthnnfppjadgldaaGreatDoor
open Go.RowKit Go.Extern.Stop Go.Stop Go.Extern
theorem Tryz.unwrapS (v : Value) (xT : TypeId) (w : World) : (Instr.typeAssert (.iface 60 v) xT 112 true).run Tryz.prog w = .ok (.tuple #[.nilIface, .bool false]) w :=
  run_typeAssert_lacksB Tryz.underlying112 (by kernel_rfl) (by kernel_rfl) v xT w
theorem Tryz.unwrapF (v : Value) (xT : TypeId) (w : World) : (Instr.typeAssert (.iface 81 v) xT 112 true).run Tryz.prog w = .ok (.tuple #[.iface 81 v, .bool true]) w :=
  run_typeAssert_hasB Tryz.underlying112 (by kernel_rfl) v xT w
theorem unwrap_status (v : Value) (w : World) :
    Calls Tryz.prog 66 #[.iface 60 v] w fun e w' => e = .returned .nilIface /\ w = w' := by
  have h1 := Tryz.unwrapS
  go_enter Tryz.func66, Tryz.ntmps66
  go_wp2
  go_ret
  exact ⟨rfl, rfl⟩
theorem Tryz.mUnwrapF (v : Value) (w : World) : (Go.method 276 81 v "Unwrap").run Tryz.prog w = .ok (116, v) w := by kernel_rfl
theorem unwrapF_any (s n : Int) (w : World) :
    Calls Tryz.prog 116 #[.agg #[.int .i64 s, .int .i64 n]] w fun e w' => e = .returned (.iface 60 (.int .i64 s)) /\ w' = w.alloc (.cells #[.int .i64 s, .int .i64 n] 81) := by
  go_enter Tryz.func116, Tryz.ntmps116
  go_wp2
  go_ret
  exact ⟨rfl, rfl⟩
set_option maxRecDepth 100000 in
theorem unwrap_fault (s n : Int) (w : World) :
    Calls Tryz.prog 66 #[.iface 81 (.agg #[.int .i64 s, .int .i64 n])] w fun e w' => e = .returned (.iface 60 (.int .i64 s)) /\ w' = w.alloc (.cells #[.int .i64 s, .int .i64 n] 81) := by
  have h1 := Tryz.unwrapF
  have h2 := Tryz.mUnwrapF
  go_enter Tryz.func66, Tryz.ntmps66
  go_wp2_with (go_at_call 116; refine (unwrapF_any _ _ _).mono ?_; rintro e w' ⟨rfl, rfl⟩)
  go_ret
  exact ⟨rfl, rfl⟩
end Go.Proofs.YthnnfppjadgldaaGreatDoor
namespace Go.Proofs.YthnnfppjadgldaaGreatDoor
open Go.RowKit Go.Extern.Stop Go.Stop Go.Extern
def Chn (_w : World) (ps : List ByteArray) (base v : Value) : Prop := ps = [] /\ v = base
theorem block_of_cell {w : World} {b o : Nat} {v : Value} (h : w.cell? ⟨b, o, none⟩ = some v) : b < w.heap.size := by
  rcases Nat.lt_or_ge b w.heap.size with h' | h'
  · exact h'
  · simp [World.cell?, Array.getElem?_eq_none h'] at h
theorem Chn.below {w w' : World} (_hb : Below w.heap.size w w') {ps : List ByteArray} {base v : Value} (h : Chn w ps base v) : Chn w' ps base v := h
theorem Chn.one (w : World) (base : Value) : Chn w [] base base := ⟨rfl, rfl⟩
def baseS (s : Int) : Value := .iface 60 (.int .i64 s)
def baseF (s n : Int) : Value := .iface 81 (.agg #[.int .i64 s, .int .i64 n])
def Lnk : Nat -> World -> Value -> Prop
  | 0, _, v => v = .nilIface
  | k + 1, _, v => (k = 0 /\ ∃ s, v = .iface 60 (.int .i64 s)) \/ (k = 1 /\ ∃ s n, v = .iface 81 (.agg #[.int .i64 s, .int .i64 n]))
theorem Lnk.below {w w' : World} (_hb : Below w.heap.size w w') : ∀ {k : Nat} {v : Value}, Lnk k w v -> Lnk k w' v
  | 0, _, h => h
  | _ + 1, _, h => h
theorem Lnk.ofF {w : World} {s n : Int} {ps : List ByteArray} {v : Value} (h : Chn w ps (baseF s n) v) : Lnk (ps.length + 2) w v := by
  obtain ⟨rfl, rfl⟩ := h; exact .inr ⟨rfl, s, n, rfl⟩
theorem Tryz.eqNil (v : Value) (t : TypeId) (w : World) : (binOp .eql 28 (.iface t v) .nilIface).run Tryz.prog w = .ok (.bool false) w :=
  run_eql_held_nil w 28 t v (by kernel_rfl)
def TrueBelow (w : World) (e : Ending) (w' : World) : Prop := e = .returned (.bool true) /\ Below w.heap.size w w'
set_option maxRecDepth 100000 in
set_option maxHeartbeats 1000000 in
theorem ends_any (k : Nat) (v : Value) (w : World) (hk : k <= 1000) (hl : Lnk k w v) :
    Calls Tryz.prog 63 #[v] w (TrueBelow w) := by
  have hq := Tryz.eqNil
  go_enter Tryz.func63, Tryz.ntmps63
  go_wp2
  go_loopg [0, 3] k (fun k v i wr => Lnk k wr v /\ Below w.heap.size w wr /\ ∃ j : Nat, i = .int .i64 j /\ j + k <= 1000)
  case atStart => exact ⟨hl, Below.refl _ _, 0, rfl, by omega⟩
  case round =>
    obtain ⟨hl, hb, j, rfl, hj⟩ := hrel
    have hlt : ((j : Int) < 1048576) = True := by simp only [eq_iff_iff, iff_true]; omega
    rcases gk with _ | k
    · obtain rfl := hl
      go_wp2
      go_ret
      exact ⟨rfl, hb⟩
    · rcases hl with ⟨rfl, s, rfl⟩ | ⟨rfl, s, n, rfl⟩
      · go_wp2_with (go_at_call 66; refine (unwrap_status _ _).mono ?_; rintro e w' ⟨rfl, rfl⟩)
        go_roundg 0
        case measure => omega
        case rel => exact ⟨rfl, hb, j + 1, by go_num, by omega⟩
      · go_wp2_with (go_at_call 66; refine (unwrap_fault _ _ _).mono ?_; rintro e w' ⟨rfl, rfl⟩)
        go_roundg 1
        case measure => omega
        case rel => exact ⟨.inl ⟨rfl, s, rfl⟩, hb.alloc hb.size _, j + 1, by go_num, by omega⟩
end Go.Proofs.YthnnfppjadgldaaGreatDoor
