/- doorkeeperlaw02.OctetClasses returns true. -/
import Derived.Test.YtbfmpcdookifhaaOctH
import Derived.RowKit3
namespace Go.Proofs.Ytbfmpcdookifhaa
set_option linter.all false
open Go.RowKit

theorem hexV_bd {z v : Int} (h : hexV z = some v) : 0 ≤ v := by
  unfold hexV at h
  (repeat' split at h) <;> simp at h <;> omega
theorem byte_wf {z : Int} (h : (Lit.int .u8 z).wf = true) : 0 ≤ z ∧ z ≤ 255 := by
  simp only [Lit.wf, Bool.and_eq_true, decide_eq_true_eq] at h; exact h
set_option maxRecDepth 100000 in
set_option maxHeartbeats 1000000 in
theorem octetClasses_any (z : Int) (w : World) (h0 : 0 ≤ z) (h1 : z ≤ 255) : Calls Try.prog 3 #[.int .u8 z] w (SaysIn true w) := by
  have C1 := Lib.hid (fun (w : World) => hex_any z w h0 h1)
  have C2 := Lib.hid (fun (w : World) => refHex_any z w h0 h1)
  have C3 := Lib.hid (fun (w : World) => class0 z w h0 h1)
  have C4 := Lib.hid (fun (w : World) => class1 z w h0 h1)
  have C5 := Lib.hid (fun (w : World) => class2 z w h0 h1)
  have C6 := Lib.hid (fun (w : World) => class3 z w h0 h1)
  have C7 := Lib.hid (fun (w : World) => class4 z w h0 h1)
  have C8 := Lib.hid (fun (w : World) => class5 z w h0 h1)
  have hv : (∃ v : Int, hexV z = some v ∧ hexN z = v ∧ 0 ≤ v) ∨ (hexV z = none ∧ hexN z = -1) := by
    cases h : hexV z with
    | none => exact .inr ⟨rfl, by simp [hexN, h]⟩
    | some v => exact .inl ⟨v, rfl, by simp [hexN, h], hexV_bd h⟩
  rcases hv with ⟨v, hv1, hv2, hv3⟩ | ⟨hv1, hv2⟩
  all_goals
    have Hv1 := Lib.hid hv1
    have Hv2 := Lib.hid hv2
    clear hv1 hv2
    go_enter Try.func3, Try.ntmps3
    go_wp2_with fail
    refine (awake_any _).mono ?_
    rintro e w1 ⟨rfl, hb⟩
    go_wp2_with fail
    refine (C1.out _).mono ?_
    unfold SaysHex
    rw [Hv1.out]
    rintro e w' ⟨rfl, rfl⟩
    go_wp2_with fail
    repeat
      refine (C2.out _).mono ?_
      unfold SaysInt
      rw [Hv2.out]
      rintro e w' ⟨rfl, rfl⟩
      go_wp2_with fail
    refine (letter_any _ _).mono ?_
    rintro e w' ⟨rfl, rfl⟩
    go_wp2_with fail
    refine (C3.out _).mono ?_
    rintro e w' ⟨rfl, rfl⟩
    go_wp2_with fail
    refine (digit_any _ _).mono ?_
    rintro e w' ⟨rfl, rfl⟩
    go_wp2_with fail
    refine (C4.out _).mono ?_
    rintro e w' ⟨rfl, rfl⟩
    go_wp2_with fail
    refine (token_any _ _).mono ?_
    rintro e w' ⟨rfl, rfl⟩
    go_wp2_with fail
    refine (C5.out _).mono ?_
    rintro e w' ⟨rfl, rfl⟩
    go_wp2_with fail
    refine (unres_any _ _).mono ?_
    rintro e w' ⟨rfl, rfl⟩
    go_wp2_with fail
    refine (C6.out _).mono ?_
    rintro e w' ⟨rfl, rfl⟩
    go_wp2_with fail
    refine (path_any _ _).mono ?_
    rintro e w' ⟨rfl, rfl⟩
    go_wp2_with fail
    refine (C7.out _).mono ?_
    rintro e w' ⟨rfl, rfl⟩
    go_wp2_with fail
    refine (field_any _ _).mono ?_
    rintro e w' ⟨rfl, rfl⟩
    go_wp2_with fail
    refine (C8.out _).mono ?_
    rintro e w' ⟨rfl, rfl⟩
    go_wp2_with fail
    go_ret
    exact saysIn_of rfl hb
end Go.Proofs.Ytbfmpcdookifhaa
