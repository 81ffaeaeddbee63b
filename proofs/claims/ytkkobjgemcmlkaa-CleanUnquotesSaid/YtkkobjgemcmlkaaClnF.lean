/- Layer 7: awake. -/
import Derived.Test.YtkkobjgemcmlkaaClnE
namespace Go.Proofs.Ytkkobjgemcmlkaa
set_option linter.all false
open Go.RowKit

theorem saysIn_end7 {a b : Bool} {w w' : World} (h : a = b) (hb : Below w.heap.size w w') : SaysIn b w (.returned (.bool a)) w' := ⟨by rw [h], hb⟩
set_option maxRecDepth 100000 in
set_option maxHeartbeats 2000000 in
theorem awake07_any (w : World) : Calls Try.prog 8 #[] w (SaysIn true w) := by
  have Q1 := Lib.hid (fun w => quote_at ⟨#[97, 34, 98]⟩ ⟨#[34, 97, 92, 34, 98, 34]⟩ w (by decide) (by decide +kernel))
  have U1 := Lib.hid (fun w => unquote_at ⟨#[34, 97, 92, 34, 98, 34]⟩ ⟨#[97, 34, 98]⟩ w (by decide) (by decide +kernel))
  have U2 := Lib.hid (fun w => unquote_none ⟨#[34, 92, 97, 34]⟩ w (by decide) (by decide +kernel))
  have S1 := Lib.hid (fun w => safe_at ⟨#[97]⟩ true w (by decide) (by decide +kernel))
  have S2 := Lib.hid (fun w => safe_at ⟨#[97, 10]⟩ false w (by decide) (by decide +kernel))
  have C1 := Lib.hid (fun w => clean_at ⟨#[97, 13, 10, 98]⟩ ⟨#[97, 32, 32, 98]⟩ w (by decide) (by decide +kernel))
  go_enter Try.func8, Try.ntmps8
  go_wp2_with fail
  refine (Q1.out _).mono ?_
  rintro e w1 ⟨rfl, b1⟩
  go_wp2_with fail
  refine (U1.out _).mono ?_
  rintro e w2 ⟨rfl, b2'⟩
  have b2 := b1.trans (b2'.mono b1.size)
  clear b2'
  go_wp2_with fail
  refine (U2.out _).mono ?_
  rintro e w3 ⟨rfl, b3'⟩
  have b3 := b2.trans (b3'.mono b2.size)
  clear b3'
  go_wp2_with fail
  refine (S1.out _).mono ?_
  rintro e w4 ⟨rfl, b4'⟩
  have b4 := b3.trans (b4'.mono b3.size)
  clear b4'
  go_wp2_with fail
  refine (S2.out _).mono ?_
  rintro e w5 ⟨rfl, b5'⟩
  have b5 := b4.trans (b5'.mono b4.size)
  clear b5'
  go_wp2_with fail
  refine (C1.out _).mono ?_
  rintro e w6 ⟨rfl, b6'⟩
  have b6 := b5.trans (b6'.mono b5.size)
  clear b6'
  go_wp2_with fail
  go_ret
  exact saysIn_end7 rfl b6
end Go.Proofs.Ytkkobjgemcmlkaa
