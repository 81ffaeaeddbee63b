/- Package reqline: the rules of Parse. -/
import Derived.Test.YtfobpcedbaaiaaaDoorReqB
import Derived.Test.YtfobpcedbaaiaaaDoorVal
import Derived.Test.YtfobpcedbaaiaaaDoorFltK
import Derived.Deep.RegionHeld3
import Derived.StillTailTactics
import Derived.Laws.EntriesVeiled
namespace Go.Proofs.YtfobpcedbaaiaaaDoor
set_option linter.all false
open Go.RowKit

def fnv (n : Nat) : Value := .func (.func n) #[] #[]
def rulesL : List Value := [.int .i64 0, fnv 27, .int .i64 400, .int .i64 1, fnv 28, .int .i64 400, .int .i64 2, fnv 29, .int .i64 400, .int .i64 2, fnv 30, .int .i64 505]
theorem rules_any (w : World) : Calls Tryd.prog 19 #[] w (fun e w' => e = .returned (.agg rulesL.toArray) ∧ Below w.heap.size w w') := by
  have hb : Below w.heap.size w (w.alloc (.cells rulesL.toArray 50)) := (Below.refl _ _).alloc (Nat.le_refl _) _
  go_enter Tryd.func19, Tryd.ntmps19
  go_wp2
  exact bodyPost_ret (v := .agg rulesL.toArray) (by simp [results, Tryd.results19, go_sem]; rfl) rfl ⟨rfl, hb⟩
/-! ### the rules, one by one -/
def rPart : Nat → Nat
  | 0 => 0
  | 1 => 1
  | _ => 2
def rFn : Nat → Nat
  | 0 => 27
  | 1 => 28
  | 2 => 29
  | _ => 30
def rSt : Nat → Int
  | 3 => 505
  | _ => 400
def pText (A B C : ByteArray) : Nat → ByteArray
  | 0 => A
  | 1 => B
  | _ => C
def pAt (A B : ByteArray) : Nat → Int
  | 0 => 0
  | 1 => (A.size : Int) + 1
  | _ => (A.size : Int) + (B.size : Int) + 2
def rHolds (A B C : ByteArray) : Nat → Bool
  | 0 => tokS A
  | 1 => tgtS B
  | 2 => verS C
  | _ => supS C
def rVal (k : Nat) : Value := .agg #[.int .i64 (rPart k : Int), fnv (rFn k), .int .i64 (rSt k)]
theorem rPart_lt (k : Nat) : rPart k < 3 := by unfold rPart; split <;> decide
theorem Tryd.ixRule0 (w : World) : (Instr.index 50 (.agg rulesL.toArray) (.int .i64 0)).run Tryd.prog w = .ok (rVal 0) w := by kernel_rfl
theorem Tryd.ixRule1 (w : World) : (Instr.index 50 (.agg rulesL.toArray) (.int .i64 1)).run Tryd.prog w = .ok (rVal 1) w := by kernel_rfl
theorem Tryd.ixRule2 (w : World) : (Instr.index 50 (.agg rulesL.toArray) (.int .i64 2)).run Tryd.prog w = .ok (rVal 2) w := by kernel_rfl
theorem Tryd.ixRule3 (w : World) : (Instr.index 50 (.agg rulesL.toArray) (.int .i64 3)).run Tryd.prog w = .ok (rVal 3) w := by kernel_rfl
theorem index_rule (k : Nat) (hk : k < 4) (w : World) : (Instr.index 50 (.agg rulesL.toArray) (.int .i64 (k : Int))).run Tryd.prog w = .ok (rVal k) w := by
  match k, hk with
  | 0, _ => exact Tryd.ixRule0 w
  | 1, _ => exact Tryd.ixRule1 w
  | 2, _ => exact Tryd.ixRule2 w
  | 3, _ => exact Tryd.ixRule3 w
theorem Tryd.enters0 (x : Value) (w : World) : (callFunc 27 #[x]).run Tryd.prog w = .ok (.enter 27 #[x]) w := by kernel_rfl
theorem Tryd.enters1 (x : Value) (w : World) : (callFunc 28 #[x]).run Tryd.prog w = .ok (.enter 28 #[x]) w := by kernel_rfl
theorem Tryd.enters2 (x : Value) (w : World) : (callFunc 29 #[x]).run Tryd.prog w = .ok (.enter 29 #[x]) w := by kernel_rfl
theorem Tryd.enters3 (x : Value) (w : World) : (callFunc 30 #[x]).run Tryd.prog w = .ok (.enter 30 #[x]) w := by kernel_rfl
theorem rule_enters (k : Nat) (x : Value) (w : World) : (callFunc (rFn k) #[x]).run Tryd.prog w = .ok (.enter (rFn k) #[x]) w := by
  match k with
  | 0 => exact Tryd.enters0 x w
  | 1 => exact Tryd.enters1 x w
  | 2 => exact Tryd.enters2 x w
  | _ + 3 => exact Tryd.enters3 x w
theorem saysIn_says {f : Nat} {args : Array Value} {b : Bool} {w : World} (h : Calls Tryd.prog f args w (Says b w)) : Calls Tryd.prog f args w (SaysIn b w) :=
  h.mono fun e w' ⟨h1, h2⟩ => ⟨h1, h2 ▸ Below.refl _ _⟩
theorem rule_any (A B C : ByteArray) (k : Nat) (w : World) (hA : A.size ≤ 1000000) (hB : B.size ≤ 1000000) (hC : C.size ≤ 1000000) :
    Calls Tryd.prog (rFn k) #[.string (pText A B C (rPart k))] w (SaysIn (rHolds A B C k) w) := by
  match k with
  | 0 => exact isToken_any A w (by omega)
  | 1 => exact isTarget_any B w (by omega)
  | 2 => exact saysIn_says (isVersion_any C w (by omega))
  | _ + 3 => exact saysIn_says (isSupported_any C w)
theorem outP_bad {A B C : ByteArray} {k : Nat} (h : ∀ j, j < k → rHolds A B C j = true) (hk : rHolds A B C k = false) (h4 : k < 4) : outP A B C = .bad (rSt k) (pAt A B (rPart k)) := by
  match k, h4 with
  | 0, _ => have h0 : tokS A = false := hk; simp [outP, h0, rSt, pAt, rPart]
  | 1, _ => have h0 : tokS A = true := h 0 (by decide); have h1 : tgtS B = false := hk; simp [outP, h0, h1, rSt, pAt, rPart]
  | 2, _ => have h0 : tokS A = true := h 0 (by decide); have h1 : tgtS B = true := h 1 (by decide); have h2 : verS C = false := hk; simp [outP, h0, h1, h2, rSt, pAt, rPart]
  | 3, _ => have h0 : tokS A = true := h 0 (by decide); have h1 : tgtS B = true := h 1 (by decide); have h2 : verS C = true := h 2 (by decide); have h3 : supS C = false := hk; simp [outP, h0, h1, h2, h3, rSt, pAt, rPart]
theorem outP_line {A B C : ByteArray} (h : ∀ j, j < 4 → rHolds A B C j = true) : outP A B C = .line A B (minS C) ∧ supS C = true := by
  have h0 : tokS A = true := h 0 (by decide)
  have h1 : tgtS B = true := h 1 (by decide)
  have h2 : verS C = true := h 2 (by decide)
  have h3 : supS C = true := h 3 (by decide)
  exact ⟨by simp [outP, h0, h1, h2, h3], h3⟩
/-! ### Parse -/
def lineV (A B : ByteArray) (m : Int) : Value := .agg #[.string A, .string B, .int .i64 m]
def outV : Out → Value
  | .bad st at_ => .tuple #[lineV ⟨#[]⟩ ⟨#[]⟩ 0, baseF st at_]
  | .line A B m => .tuple #[lineV A B m, .nilIface]
def ParsesTo (o : Out) (w : World) (e : Ending) (w' : World) : Prop := e = .returned (outV o) ∧ Below w.heap.size w w'
end Go.Proofs.YtfobpcedbaaiaaaDoor
