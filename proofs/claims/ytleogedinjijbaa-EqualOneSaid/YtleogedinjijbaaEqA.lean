/- Package equal: at, Steps, and a step that is taken. -/
import Derived.Test.YtleogedinjijbaaEqP
import Derived.Laws.MakeOwn
import Derived.OneCell
namespace Go.Proofs.Ytleogedinjijbaa
set_option linter.all false
open Go.RowKit

/-- A call that answers a number and leaves the world as it is. -/
def SaysK (k : IntKind) (z : Int) (w : World) (e : Ending) (w' : World) : Prop := e = .returned (.int k z) ∧ w = w'
theorem saysK_of {k : IntKind} {a b : Int} (w : World) (h : a = b) : SaysK k b w (.returned (.int k a)) w := ⟨by rw [h], rfl⟩

theorem eqAt_any (s : ByteArray) (i : Nat) (w : World) (hs : s.size ≤ 9223372036854775807) (hi : i ≤ 9223372036854775807) :
    Calls Try.prog 20 #[.string s, .int .i64 (i : Int)] w (SaysK .u8 (eqAt s i : Int) w) := by
  by_cases h : i < s.size
  · have H := Lib.hid (eqAt_in s i h)
    go_enter Try.func20, Try.ntmps20
    go_wp2
    go_ret
    exact saysK_of w (by rw [H.out])
  · have H := Lib.hid (eqAt_out s i (by omega))
    go_enter Try.func20, Try.ntmps20
    go_wp2
    go_ret
    exact saysK_of w (by rw [H.out]; rfl)
theorem eqSteps_any (a b : ByteArray) (w : World) (ha : a.size ≤ 9223372036854775807) (hb : b.size ≤ 9223372036854775807) :
    Calls Try.prog 12 #[.string a, .string b] w (SaysK .i64 ((max a.size b.size : Nat) : Int) w) := by
  go_enter Try.func12, Try.ntmps12
  go_wp2
  all_goals
    go_ret
    exact saysK_of w (by omega)
theorem take_idle (w : World) :
    CallsD Try.prog 19 #[] .returning w fun e u' w' => e = .returned (.tuple #[]) ∧ u' = .returning ∧ w' = w := by
  refine callsD_of_wpS Try.func19 rfl fun c₀ cs hu => ?_
  apply wpS_region
  simp [wpOpsS, go_sem, recoverD, hu, Try.ntmps19, Exit.thenS]
  cases c₀
  simp_all [bodyPostS, results, Try.results19]
/-- A step that is taken: what the step does. -/
theorem take_any (f : Nat) (first : Array Value) (x y : Nat) (w : World) (R : World → Prop)
    (hcall : ∀ (w : World), (callFunc f (first ++ #[.int .u8 (x : Int), .int .u8 (y : Int)])).run Try.prog w = .ok (.enter f (first ++ #[.int .u8 (x : Int), .int .u8 (y : Int)])) w)
    (h : Calls Try.prog f (first ++ #[.int .u8 (x : Int), .int .u8 (y : Int)]) w fun e w' => e = .returned (.tuple #[]) ∧ R w') :
    Calls Try.prog 16 #[.func (.func f) first #[], .int .u8 (x : Int), .int .u8 (y : Int)] w fun e w' => e = .returned (.tuple #[]) ∧ R w' := by
  have H := Lib.hid h
  clear h
  go_enter_defers Try.func16, Try.ntmps16
  go_wp2_with fail
  refine H.out.mono ?_
  rintro e w' ⟨rfl, hR⟩
  go_wp2_with fail
  refine leaves_cons (f := 19) (args := #[]) (by simp) (by simp [go_sem]) ?_
  refine (take_idle _).mono ?_
  rintro e u' w'' ⟨rfl, rfl, rfl⟩
  simp [Leaves, settle, results, Try.results16, go_sem]
  exact hR
/-- The closure of a walk: its captured variables are the differences and the step. -/
theorem walkStep_any (f : Nat) (first : Array Value) (x y d D S : Nat) (w : World) (R : World → Prop) (hx : x < 256) (hy : y < 256) (hd : d < 2 ^ 63)
    (hcall : ∀ (w : World), (callFunc f (first ++ #[.int .u8 (x : Int), .int .u8 (y : Int)])).run Try.prog w = .ok (.enter f (first ++ #[.int .u8 (x : Int), .int .u8 (y : Int)])) w)
    (hD : w.heap[D]? = some (.cells #[.int .i64 (d : Int)] 3 (0, 0)))
    (hS : w.heap[S]? = some (.cells #[.func (.func f) first #[]] 27 (0, 0)))
    (h : Calls Try.prog f (first ++ #[.int .u8 (x : Int), .int .u8 (y : Int)]) (w.setCell ⟨D, 0, none⟩ (.int .i64 ((d ||| (x ^^^ y) : Nat) : Int))) fun e w' => e = .returned (.tuple #[]) ∧ R w') :
    Calls Try.prog 15 #[.int .u8 (x : Int), .int .u8 (y : Int), .pointer (some ⟨D, 0, none⟩), .pointer (some ⟨S, 0, none⟩)] w fun e w' => e = .returned (.tuple #[]) ∧ R w' := by
  have H := Lib.hid (take_any f first x y _ R hcall h)
  clear hcall h
  have hx8 : x ^^^ y < 2 ^ 8 := Nat.xor_lt_two_pow hx hy
  have e1 := u8_xor_nat x y hx hy
  have e2 := i64_or_nat d (x ^^^ y) hd (by omega)
  have hne : D ≠ S := by
    rintro rfl
    rw [hD] at hS
    injection hS with hS
    injection hS with _ h2 _
    revert h2; decide
  have cD := cell_of_one hD
  have fD := free_of_one hD
  have cS := cell_of_one hS
  have HD := Lib.hid hD
  have HS := Lib.hid hS
  clear hD hS
  obtain ⟨g, hg⟩ : ∃ g, g = x ^^^ y := ⟨_, rfl⟩
  rw [← hg] at e1 e2 H hx8
  obtain ⟨g2, hg2⟩ : ∃ g2, g2 = d ||| g := ⟨_, rfl⟩
  rw [← hg2] at e2 H
  clear hg hg2
  go_enter Try.func15, Try.ntmps15
  go_wp2_with fail
  refine H.out.mono ?_
  rintro e w' ⟨rfl, hR⟩
  go_wp2
  go_end0
  exact ⟨rfl, hR⟩
end Go.Proofs.Ytleogedinjijbaa
