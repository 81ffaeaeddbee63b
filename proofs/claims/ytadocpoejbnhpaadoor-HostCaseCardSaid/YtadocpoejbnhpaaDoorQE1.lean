/- Texts of one seat, merged: ErrA, ErrB. -/
import Derived.Test.YtadocpoejbnhpaaDoorProg
import Derived.WalkKit
import Derived.LaidEql
import Derived.Stop.Asserts
import Derived.RowKitTokens
import Derived.Outline
import Derived.Lib.Hide
import Derived.Deep.LoopGhost
namespace Go.Proofs.YtadocpoejbnhpaaDoor
open Go.RowKit Go.Extern.Stop Go.Stop Go.Extern
theorem Tryd.unwrapS (v : Value) (xT : TypeId) (w : World) : (Instr.typeAssert (.iface 66 v) xT 121 true).run Tryd.prog w = .ok (.tuple #[.nilIface, .bool false]) w :=
  run_typeAssert_lacksB Tryd.underlying121 (by kernel_rfl) (by kernel_rfl) v xT w
theorem Tryd.unwrapF (v : Value) (xT : TypeId) (w : World) : (Instr.typeAssert (.iface 89 v) xT 121 true).run Tryd.prog w = .ok (.tuple #[.iface 89 v, .bool true]) w :=
  run_typeAssert_hasB Tryd.underlying121 (by kernel_rfl) v xT w
theorem Tryd.unwrapW (v : Value) (xT : TypeId) (w : World) : (Instr.typeAssert (.iface 95 v) xT 121 true).run Tryd.prog w = .ok (.tuple #[.iface 95 v, .bool true]) w :=
  run_typeAssert_hasB Tryd.underlying121 (by kernel_rfl) v xT w
theorem unwrap_status (v : Value) (w : World) :
    Calls Tryd.prog 62 #[.iface 66 v] w fun e w' => e = .returned .nilIface /\ w = w' := by
  have h1 := Tryd.unwrapS
  go_enter Tryd.func62, Tryd.ntmps62
  go_wp2
  go_ret
  exact ⟨rfl, rfl⟩
theorem Tryd.mUnwrapF (v : Value) (w : World) : (Go.method 287 89 v "Unwrap").run Tryd.prog w = .ok (107, v) w := by kernel_rfl
theorem Tryd.mUnwrapW (v : Value) (w : World) : (Go.method 287 95 v "Unwrap").run Tryd.prog w = .ok (109, v) w := by kernel_rfl
theorem unwrapF_any (s n : Int) (w : World) :
    Calls Tryd.prog 107 #[.agg #[.int .i64 s, .int .i64 n]] w fun e w' => e = .returned (.iface 66 (.int .i64 s)) /\ w' = w.alloc (.cells #[.int .i64 s, .int .i64 n] 89) := by
  go_enter Tryd.func107, Tryd.ntmps107
  go_wp2
  go_ret
  exact ⟨rfl, rfl⟩
theorem unwrapW_any (b : Nat) (inner : Value) (w : World) (hc : w.cell? ⟨b, 1, none⟩ = some inner) :
    Calls Tryd.prog 109 #[.pointer (some ⟨b, 0, none⟩)] w fun e w' => e = .returned inner /\ w = w' := by
  go_enter Tryd.func109, Tryd.ntmps109
  go_wp2
  go_ret
  exact ⟨rfl, rfl⟩
set_option maxRecDepth 100000 in
theorem unwrap_fault (s n : Int) (w : World) :
    Calls Tryd.prog 62 #[.iface 89 (.agg #[.int .i64 s, .int .i64 n])] w fun e w' => e = .returned (.iface 66 (.int .i64 s)) /\ w' = w.alloc (.cells #[.int .i64 s, .int .i64 n] 89) := by
  have h1 := Tryd.unwrapF
  have h2 := Tryd.mUnwrapF
  go_enter Tryd.func62, Tryd.ntmps62
  go_wp2_with (go_at_call 107; refine (unwrapF_any _ _ _).mono ?_; rintro e w' ⟨rfl, rfl⟩)
  go_ret
  exact ⟨rfl, rfl⟩
set_option maxRecDepth 100000 in
theorem unwrap_wrapped (b : Nat) (inner : Value) (w : World) (hc : w.cell? ⟨b, 1, none⟩ = some inner) :
    Calls Tryd.prog 62 #[.iface 95 (.pointer (some ⟨b, 0, none⟩))] w fun e w' => e = .returned inner /\ w = w' := by
  have h1 := Tryd.unwrapW
  have h2 := Tryd.mUnwrapW
  go_enter Tryd.func62, Tryd.ntmps62
  go_wp2_with (go_at_call 109; refine (unwrapW_any _ _ _ hc).mono ?_; rintro e w' ⟨rfl, rfl⟩)
  go_ret
  exact ⟨rfl, rfl⟩
end Go.Proofs.YtadocpoejbnhpaaDoor
namespace Go.Proofs.YtadocpoejbnhpaaDoor
open Go.RowKit Go.Extern.Stop Go.Stop Go.Extern
def Chn : World -> List ByteArray -> Value -> Value -> Prop
  | _, [], base, v => v = base
  | w, p :: ps, base, v => ∃ b inner, v = .iface 95 (.pointer (some ⟨b, 0, none⟩)) /\ w.cell? ⟨b, 0, none⟩ = some (.string p) /\ w.cell? ⟨b, 1, none⟩ = some inner /\ Chn w ps base inner
theorem Chn.one (w : World) (base : Value) : Chn w [] base base := rfl
theorem block_of_cell {w : World} {b o : Nat} {v : Value} (h : w.cell? ⟨b, o, none⟩ = some v) : b < w.heap.size := by
  rcases Nat.lt_or_ge b w.heap.size with h' | h'
  · exact h'
  · simp [World.cell?, Array.getElem?_eq_none h'] at h
theorem Chn.below {w w' : World} (hb : Below w.heap.size w w') : ∀ {ps : List ByteArray} {base v : Value}, Chn w ps base v -> Chn w' ps base v
  | [], _, _, h => h
  | p :: ps, base, v, ⟨b, inner, h1, h2, h3, h4⟩ =>
    ⟨b, inner, h1, by rw [hb.cell (p := ⟨b, 0, none⟩) (block_of_cell h2)]; exact h2, by rw [hb.cell (p := ⟨b, 1, none⟩) (block_of_cell h2)]; exact h3, Chn.below hb h4⟩
def baseS (s : Int) : Value := .iface 66 (.int .i64 s)
def baseF (s n : Int) : Value := .iface 89 (.agg #[.int .i64 s, .int .i64 n])
def Lnk : Nat -> World -> Value -> Prop
  | 0, _, v => v = .nilIface
  | k + 1, w, v => (k = 0 /\ ∃ s, v = .iface 66 (.int .i64 s)) \/ (k = 1 /\ ∃ s n, v = .iface 89 (.agg #[.int .i64 s, .int .i64 n])) \/
      (∃ b inner, v = .iface 95 (.pointer (some ⟨b, 0, none⟩)) /\ w.cell? ⟨b, 1, none⟩ = some inner /\ Lnk k w inner)
theorem Lnk.below {w w' : World} (hb : Below w.heap.size w w') : ∀ {k : Nat} {v : Value}, Lnk k w v -> Lnk k w' v
  | 0, _, h => h
  | _ + 1, _, .inl h => .inl h
  | _ + 1, _, .inr (.inl h) => .inr (.inl h)
  | _ + 1, _, .inr (.inr ⟨b, inner, h1, h2, h3⟩) => .inr (.inr ⟨b, inner, h1, by rw [hb.cell (p := ⟨b, 1, none⟩) (block_of_cell h2)]; exact h2, Lnk.below hb h3⟩)
theorem Lnk.ofF {w : World} {s n : Int} : ∀ {ps : List ByteArray} {v : Value}, Chn w ps (baseF s n) v -> Lnk (ps.length + 2) w v
  | [], _, h => .inr (.inl ⟨rfl, s, n, h⟩)
  | _ :: _, _, ⟨b, inner, h1, _, h3, h4⟩ => .inr (.inr ⟨b, inner, h1, h3, Lnk.ofF h4⟩)
theorem Tryd.eqNil (v : Value) (t : TypeId) (w : World) : (binOp .eql 26 (.iface t v) .nilIface).run Tryd.prog w = .ok (.bool false) w :=
  run_eql_held_nil w 26 t v (by kernel_rfl)
def TrueBelow (w : World) (e : Ending) (w' : World) : Prop := e = .returned (.bool true) /\ Below w.heap.size w w'
set_option maxRecDepth 100000 in
set_option maxHeartbeats 1000000 in
theorem ends_any (k : Nat) (v : Value) (w : World) (hk : k <= 1000) (hl : Lnk k w v) :
    Calls Tryd.prog 59 #[v] w (TrueBelow w) := by
  have hq := Tryd.eqNil
  go_enter Tryd.func59, Tryd.ntmps59
  go_wp2
  go_loopg [0, 3] k (fun k v i wr => Lnk k wr v /\ Below w.heap.size w wr /\ ∃ j : Nat, i = .int .i64 j /\ j + k <= 1000)
  case atStart => exact ⟨hl, Below.refl _ _, 0, rfl, by omega⟩
  case round =>
    obtain ⟨hl, hb, j, rfl, hj⟩ := hrel
    have hlt : ((j : Int) < 1048576) = True := by simp only [eq_iff_iff, iff_true]; omega
    rcases gk with _ | k
    · obtain rfl := hl
      go_wp2
      go_ret
      exact ⟨rfl, hb⟩
    · rcases hl with ⟨rfl, s, rfl⟩ | ⟨rfl, s, n, rfl⟩ | ⟨b, inner, rfl, hc, hl⟩
      · go_wp2_with (go_at_call 62; refine (unwrap_status _ _).mono ?_; rintro e w' ⟨rfl, rfl⟩)
        go_roundg 0
        case measure => omega
        case rel => exact ⟨rfl, hb, j + 1, by go_num, by omega⟩
      · go_wp2_with (go_at_call 62; refine (unwrap_fault _ _ _).mono ?_; rintro e w' ⟨rfl, rfl⟩)
        go_roundg 1
        case measure => omega
        case rel => exact ⟨.inl ⟨rfl, s, rfl⟩, hb.alloc hb.size _, j + 1, by go_num, by omega⟩
      · go_wp2_with (go_at_call 62; refine (unwrap_wrapped _ _ _ hc).mono ?_; rintro e w' ⟨rfl, rfl⟩)
        go_roundg k
        case measure => omega
        case rel => exact ⟨hl, hb, j + 1, by go_num, by omega⟩
end Go.Proofs.YtadocpoejbnhpaaDoor
