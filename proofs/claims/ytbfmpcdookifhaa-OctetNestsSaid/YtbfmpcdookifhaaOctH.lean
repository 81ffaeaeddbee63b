/- octet.IsToken; the fixed examples of layer 2: doorkeeperlaw02.awake returns true. -/
import Derived.Test.YtbfmpcdookifhaaOctG
namespace Go.Proofs.Ytbfmpcdookifhaa
set_option linter.all false
open Go.RowKit

theorem all_letter (s : ByteArray) (w : World) (hs : s.size ≤ 9223372036854775807) : Calls Try.prog 18 #[.string s, .func (.func 11) #[] #[]] w (SaysIn (allB letterB s.data.toList) w) :=
  all_any s _ letterB w hs (fun x w => by kernel_rfl) (fun z w _ _ => letter_any z w)
theorem all_token (s : ByteArray) (w : World) (hs : s.size ≤ 9223372036854775807) : Calls Try.prog 18 #[.string s, .func (.func 14) #[] #[]] w (SaysIn (allB tokenB s.data.toList) w) :=
  all_any s _ tokenB w hs (fun x w => by kernel_rfl) (fun z w _ _ => token_any z w)
theorem all_path (s : ByteArray) (w : World) (hs : s.size ≤ 9223372036854775807) : Calls Try.prog 18 #[.string s, .func (.func 16) #[] #[]] w (SaysIn (allB pathB s.data.toList) w) :=
  all_any s _ pathB w hs (fun x w => by kernel_rfl) (fun z w _ _ => path_any z w)
theorem all_field (s : ByteArray) (w : World) (hs : s.size ≤ 9223372036854775807) : Calls Try.prog 18 #[.string s, .func (.func 17) #[] #[]] w (SaysIn (allB fieldB s.data.toList) w) :=
  all_any s _ fieldB w hs (fun x w => by kernel_rfl) (fun z w _ _ => field_any z w)

def tokS (s : ByteArray) : Bool := decide (0 < s.size) && allB tokenB s.data.toList
theorem saysIn_of {a b : Bool} {w w' : World} (h : a = b) (hb : Below w.heap.size w w') : SaysIn b w (.returned (.bool a)) w' := ⟨by rw [h], hb⟩
set_option maxRecDepth 100000 in
theorem isToken_any (s : ByteArray) (w : World) (hs : s.size ≤ 9223372036854775807) :
    Calls Try.prog 20 #[.string s] w (SaysIn (tokS s) w) := by
  by_cases h : 0 < s.size
  · have h1 : s.toList.isEmpty = false := by
      rw [ByteArray.toList_eq]
      cases hl : s.data.toList with
      | nil => simp at hl; rw [show s.size = s.data.size from rfl, hl] at h; simp at h
      | cons _ _ => rfl
    have h2 : (!s.toList.isEmpty) = true := by rw [h1]; rfl
    have ht : tokS s = allB tokenB s.data.toList := by simp [tokS, h]
    have Ht := Lib.hid ht
    clear ht
    go_enter Try.func20, Try.ntmps20
    go_wp2_with fail
    refine (all_token s _ hs).mono ?_
    rintro e w' ⟨rfl, hb⟩
    go_wp2_with fail
    go_ret
    exact saysIn_of Ht.out.symm hb
  · obtain rfl : s = ByteArray.empty := by
      apply ByteArray.ext
      apply Array.eq_empty_of_size_eq_zero
      show s.size = 0
      omega
    go_enter Try.func20, Try.ntmps20
    go_wp2_with fail
    go_ret
    exact saysIn_of (by decide) (Below.refl _ _)

/-! ### the fixed examples -/
theorem says_at {f : Nat} {x : Value} {b : Bool} {w : World} {c : Bool} (h : Calls Try.prog f #[x] w (Says b w)) (e : b = c) : Calls Try.prog f #[x] w fun e w' => e = .returned (.bool c) ∧ w = w' := by subst e; exact h
theorem hex_f (w : World) : Calls Try.prog 9 #[.int .u8 102] w fun e w' => e = .returned (.tuple #[.int .i64 15, .bool true]) ∧ w = w' := hex_any 102 w (by decide) (by decide)
theorem hex_g (w : World) : Calls Try.prog 9 #[.int .u8 103] w fun e w' => e = .returned (.tuple #[.int .i64 0, .bool false]) ∧ w = w' := hex_any 103 w (by decide) (by decide)
theorem trim_awake : trimS ⟨#[32, 97, 32, 98, 32, 9]⟩ = ⟨#[97, 32, 98]⟩ := by decide
theorem lower_awake : lowS ⟨#[65, 45, 122]⟩ = ⟨#[97, 45, 122]⟩ := by decide
theorem trim_at (w : World) : Calls Try.prog 24 #[.string ⟨#[32, 97, 32, 98, 32, 9]⟩] w fun e w' => e = .returned (.string ⟨#[97, 32, 98]⟩) ∧ w = w' := by
  have := trim_any ⟨#[32, 97, 32, 98, 32, 9]⟩ w (by decide)
  rw [trim_awake] at this
  exact this
theorem lower_at (w : World) : Calls Try.prog 22 #[.string ⟨#[65, 45, 122]⟩] w fun e w' => e = .returned (.string ⟨#[97, 45, 122]⟩) ∧ Below w.heap.size w w' := by
  have := lower_any ⟨#[65, 45, 122]⟩ w (by decide)
  rw [lower_awake] at this
  exact this

set_option maxRecDepth 100000 in
set_option maxHeartbeats 1000000 in
theorem awake_any (w : World) : Calls Try.prog 8 #[] w (SaysIn true w) := by
  go_enter Try.func8, Try.ntmps8
  go_wp2_with fail
  refine (hex_f _).mono ?_
  rintro e w' ⟨rfl, rfl⟩
  go_wp2_with fail
  refine (hex_g _).mono ?_
  rintro e w' ⟨rfl, rfl⟩
  go_wp2_with fail
  refine (says_at (letter_any 97 _) (by decide : _ = true)).mono ?_
  rintro e w' ⟨rfl, rfl⟩
  go_wp2_with fail
  refine (says_at (digit_any 53 _) (by decide : _ = true)).mono ?_
  rintro e w' ⟨rfl, rfl⟩
  go_wp2_with fail
  refine (says_at (token_any 33 _) (by decide : _ = true)).mono ?_
  rintro e w' ⟨rfl, rfl⟩
  go_wp2_with fail
  refine (says_at (token_any 40 _) (by decide : _ = false)).mono ?_
  rintro e w' ⟨rfl, rfl⟩
  go_wp2_with fail
  refine (says_at (unres_any 126 _) (by decide : _ = true)).mono ?_
  rintro e w' ⟨rfl, rfl⟩
  go_wp2_with fail
  refine (says_at (path_any 64 _) (by decide : _ = true)).mono ?_
  rintro e w' ⟨rfl, rfl⟩
  go_wp2_with fail
  refine (says_at (path_any 47 _) (by decide : _ = false)).mono ?_
  rintro e w' ⟨rfl, rfl⟩
  go_wp2_with fail
  refine (says_at (field_any 9 _) (by decide : _ = true)).mono ?_
  rintro e w' ⟨rfl, rfl⟩
  go_wp2_with fail
  refine (says_at (field_any 10 _) (by decide : _ = false)).mono ?_
  rintro e w' ⟨rfl, rfl⟩
  go_wp2_with fail
  refine (all_letter ⟨#[97, 98, 99]⟩ _ (by decide)).mono ?_
  rw [show allB letterB (⟨#[97, 98, 99]⟩ : ByteArray).data.toList = true by decide]
  rintro e w1 ⟨rfl, h1⟩
  go_wp2_with fail
  refine (all_letter ⟨#[97, 49]⟩ _ (by decide)).mono ?_
  rw [show allB letterB (⟨#[97, 49]⟩ : ByteArray).data.toList = false by decide]
  rintro e w2 ⟨rfl, h2⟩
  have h2 := h1.trans (h2.mono h1.size)
  go_wp2_with fail
  refine (isToken_any ⟨#[97]⟩ _ (by decide)).mono ?_
  rw [show tokS ⟨#[97]⟩ = true by decide]
  rintro e w3 ⟨rfl, h3⟩
  have h3 := h2.trans (h3.mono h2.size)
  go_wp2_with fail
  refine (isToken_any ⟨#[]⟩ _ (by decide)).mono ?_
  rw [show tokS ⟨#[]⟩ = false by decide]
  rintro e w4 ⟨rfl, h4⟩
  have h4 := h3.trans (h4.mono h3.size)
  go_wp2_with fail
  refine (lower_at _).mono ?_
  rintro e w5 ⟨rfl, h5⟩
  have h5 := h4.trans (h5.mono h4.size)
  go_wp2_with fail
  refine (trim_at _).mono ?_
  rintro e w6 ⟨rfl, rfl⟩
  go_wp2_with fail
  go_ret
  exact saysIn_of rfl h5
end Go.Proofs.Ytbfmpcdookifhaa
