/- Package octet: the classes of bytes, and the value of a hexadecimal digit. -/
import Derived.Test.YtfmcdhohmpffbaaDoorProg
import Derived.WalkKit
import Derived.Outline
import Derived.Lib.Hide
import Derived.Deep.Light
namespace Go.Proofs.YtfmcdhohmpffbaaDoor
set_option linter.all false
open Go.RowKit

/-- A call that answers a bool and leaves the world as it is. -/
def Says (b : Bool) (w : World) (e : Ending) (w' : World) : Prop := e = .returned (.bool b) ∧ w = w'
theorem says_of {a b : Bool} (w : World) (h : a = b) : Says b w (.returned (.bool a)) w := ⟨by rw [h], rfl⟩

def letterB (z : Int) : Bool := decide (65 ≤ z ∧ z ≤ 90 ∨ 97 ≤ z ∧ z ≤ 122)
def digitB (z : Int) : Bool := decide (48 ≤ z ∧ z ≤ 57)
def unresB (z : Int) : Bool := decide (65 ≤ z ∧ z ≤ 90 ∨ 97 ≤ z ∧ z ≤ 122 ∨ 48 ≤ z ∧ z ≤ 57 ∨ z = 45 ∨ z = 46 ∨ z = 95 ∨ z = 126)
def tokenB (z : Int) : Bool := unresB z || decide (z = 33 ∨ z = 35 ∨ z = 36 ∨ z = 37 ∨ z = 38 ∨ z = 39 ∨ z = 42 ∨ z = 43 ∨ z = 94 ∨ z = 96 ∨ z = 124)
def pathB (z : Int) : Bool := unresB z || decide (z = 33 ∨ z = 36 ∨ z = 38 ∨ z = 39 ∨ z = 40 ∨ z = 41 ∨ z = 42 ∨ z = 43 ∨ z = 44 ∨ z = 59 ∨ z = 61 ∨ z = 58 ∨ z = 64)
def fieldB (z : Int) : Bool := decide (z = 9 ∨ 32 ≤ z ∧ z ≠ 127)
/-- The value of a hexadecimal digit, or none. -/
def hexV (z : Int) : Option Int := if 48 ≤ z ∧ z ≤ 57 then some (z - 48) else if 97 ≤ z ∧ z ≤ 102 then some (z - 87) else if 65 ≤ z ∧ z ≤ 70 then some (z - 55) else none

theorem letter_any (z : Int) (w : World) : Calls Tryd.prog 46 #[.int .u8 z] w (Says (letterB z) w) := by
  go_enter Tryd.func46, Tryd.ntmps46
  go_wp2
  all_goals
    go_ret
    exact says_of w (by rw [Bool.eq_iff_iff]; simp [letterB]; omega)
theorem digit_any (z : Int) (w : World) : Calls Tryd.prog 47 #[.int .u8 z] w (Says (digitB z) w) := by
  go_enter Tryd.func47, Tryd.ntmps47
  go_wp2
  all_goals
    go_ret
    exact says_of w (by rw [Bool.eq_iff_iff]; simp [digitB]; omega)
set_option maxRecDepth 100000 in
theorem unres_any (z : Int) (w : World) : Calls Tryd.prog 39 #[.int .u8 z] w (Says (unresB z) w) := by
  go_enter Tryd.func39, Tryd.ntmps39
  go_wp2_with fail
  refine (letter_any _ _).mono ?_
  rintro e w' ⟨rfl, rfl⟩
  by_cases hl : letterB z = true
  · go_wp2
    go_ret
    exact says_of w (by rw [Bool.eq_iff_iff]; simp [letterB] at hl; simp [unresB]; omega)
  · go_wp2_with fail
    refine (digit_any _ _).mono ?_
    rintro e w' ⟨rfl, rfl⟩
    by_cases hd : digitB z = true
    all_goals
      go_wp2
      all_goals
        go_ret
        exact says_of w (by rw [Bool.eq_iff_iff]; go_light; simp [letterB, digitB, unresB] at *; omega)
set_option maxRecDepth 100000 in
theorem token_any (z : Int) (w : World) : Calls Tryd.prog 32 #[.int .u8 z] w (Says (tokenB z) w) := by
  go_enter Tryd.func32, Tryd.ntmps32
  go_wp2_with fail
  refine (unres_any _ _).mono ?_
  rintro e w' ⟨rfl, rfl⟩
  by_cases hl : unresB z = true
  all_goals
    go_wp2
    all_goals
      go_ret
      exact says_of w (by rw [Bool.eq_iff_iff]; go_light; simp at *; simp [tokenB, hl]; try omega)
/-- A call that answers a number and a bool and leaves the world as it is. -/
def SaysHex (o : Option Int) (w : World) (e : Ending) (w' : World) : Prop := e = .returned (.tuple #[.int .i64 (o.getD 0), .bool o.isSome]) ∧ w = w'
theorem saysHex_of {a : Int} {b : Bool} {o : Option Int} (w : World) (h : a = o.getD 0) (h' : b = o.isSome) : SaysHex o w (.returned (.tuple #[.int .i64 a, .bool b])) w := ⟨by rw [h, h'], rfl⟩
end Go.Proofs.YtfmcdhohmpffbaaDoor
