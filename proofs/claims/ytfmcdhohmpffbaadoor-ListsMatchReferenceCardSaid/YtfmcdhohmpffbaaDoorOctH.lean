/- octet.IsToken; the fixed examples of layer 2: doorkeeperlaw02.awake returns true. -/
import Derived.Test.YtfmcdhohmpffbaaDoorOctG
namespace Go.Proofs.YtfmcdhohmpffbaaDoor
set_option linter.all false
open Go.RowKit

theorem all_letter (s : ByteArray) (w : World) (hs : s.size ≤ 9223372036854775807) : Calls Tryd.prog 31 #[.string s, .func (.func 46) #[] #[]] w (SaysIn (allB letterB s.data.toList) w) :=
  all_any s _ letterB w hs (fun x w => by kernel_rfl) (fun z w _ _ => letter_any z w)
theorem all_token (s : ByteArray) (w : World) (hs : s.size ≤ 9223372036854775807) : Calls Tryd.prog 31 #[.string s, .func (.func 32) #[] #[]] w (SaysIn (allB tokenB s.data.toList) w) :=
  all_any s _ tokenB w hs (fun x w => by kernel_rfl) (fun z w _ _ => token_any z w)
def tokS (s : ByteArray) : Bool := decide (0 < s.size) && allB tokenB s.data.toList
theorem saysIn_of {a b : Bool} {w w' : World} (h : a = b) (hb : Below w.heap.size w w') : SaysIn b w (.returned (.bool a)) w' := ⟨by rw [h], hb⟩
set_option maxRecDepth 100000 in
theorem isToken_any (s : ByteArray) (w : World) (hs : s.size ≤ 9223372036854775807) :
    Calls Tryd.prog 24 #[.string s] w (SaysIn (tokS s) w) := by
  by_cases h : 0 < s.size
  · have h1 : s.toList.isEmpty = false := by
      rw [ByteArray.toList_eq]
      cases hl : s.data.toList with
      | nil => simp at hl; rw [show s.size = s.data.size from rfl, hl] at h; simp at h
      | cons _ _ => rfl
    have h2 : (!s.toList.isEmpty) = true := by rw [h1]; rfl
    have ht : tokS s = allB tokenB s.data.toList := by simp [tokS, h]
    have Ht := Lib.hid ht
    clear ht
    go_enter Tryd.func24, Tryd.ntmps24
    go_wp2_with fail
    refine (all_token s _ hs).mono ?_
    rintro e w' ⟨rfl, hb⟩
    go_wp2_with fail
    go_ret
    exact saysIn_of Ht.out.symm hb
  · obtain rfl : s = ByteArray.empty := by
      apply ByteArray.ext
      apply Array.eq_empty_of_size_eq_zero
      show s.size = 0
      omega
    go_enter Tryd.func24, Tryd.ntmps24
    go_wp2_with fail
    go_ret
    exact saysIn_of (by decide) (Below.refl _ _)

/-! ### the fixed examples -/
theorem says_at {f : Nat} {x : Value} {b : Bool} {w : World} {c : Bool} (h : Calls Tryd.prog f #[x] w (Says b w)) (e : b = c) : Calls Tryd.prog f #[x] w fun e w' => e = .returned (.bool c) ∧ w = w' := by subst e; exact h
theorem trim_awake : trimS ⟨#[32, 97, 32, 98, 32, 9]⟩ = ⟨#[97, 32, 98]⟩ := by decide
theorem lower_awake : lowS ⟨#[65, 45, 122]⟩ = ⟨#[97, 45, 122]⟩ := by decide
theorem trim_at (w : World) : Calls Tryd.prog 30 #[.string ⟨#[32, 97, 32, 98, 32, 9]⟩] w fun e w' => e = .returned (.string ⟨#[97, 32, 98]⟩) ∧ w = w' := by
  have := trim_any ⟨#[32, 97, 32, 98, 32, 9]⟩ w (by decide)
  rw [trim_awake] at this
  exact this
theorem lower_at (w : World) : Calls Tryd.prog 25 #[.string ⟨#[65, 45, 122]⟩] w fun e w' => e = .returned (.string ⟨#[97, 45, 122]⟩) ∧ Below w.heap.size w w' := by
  have := lower_any ⟨#[65, 45, 122]⟩ w (by decide)
  rw [lower_awake] at this
  exact this

end Go.Proofs.YtfmcdhohmpffbaaDoor
