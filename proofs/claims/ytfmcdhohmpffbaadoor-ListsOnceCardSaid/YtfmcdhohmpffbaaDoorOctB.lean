/- The reference of layer 2: a byte in a string, classes, the value of a hexadecimal digit, all bytes of a string, tokens. -/
import Derived.Test.YtfmcdhohmpffbaaDoorOctA
import Derived.Deep.QuietTactic
import Derived.BigQuiet
namespace Go.Proofs.YtfmcdhohmpffbaaDoor
set_option linter.all false
open Go.RowKit

def memB (z : Int) (l : List UInt8) : Bool := l.any fun b => decide ((b.toNat : Int) = z)
theorem take_snoc (s : ByteArray) (k : Nat) (h : k < s.size) : s.data.toList.take (k + 1) = s.data.toList.take k ++ [s[k]] := by
  rw [List.take_succ_eq_append_getElem (by simpa using h)]; rfl
theorem memB_snoc (z : Int) (s : ByteArray) (k : Nat) (h : k < s.size) : memB z (s.data.toList.take (k + 1)) = (memB z (s.data.toList.take k) || decide ((s[k].toNat : Int) = z)) := by
  rw [take_snoc s k h]; simp [memB]
theorem memB_yes (z : Int) (s : ByteArray) (k : Nat) (h : k < s.size) (he : (s[k].toNat : Int) = z) : memB z s.data.toList = true := by
  unfold memB
  rw [List.any_eq_true]
  exact ⟨s[k], by rw [show s[k] = s.data[k] from rfl]; simp, by simpa using he⟩
theorem memB_no (z : Int) (s : ByteArray) (k : Nat) (h : s.size ≤ k) (he : memB z (s.data.toList.take k) = false) : memB z s.data.toList = false := by
  rwa [List.take_of_length_le (by simpa using h)] at he

set_option maxRecDepth 100000 in
theorem in_any (z : Int) (s : ByteArray) (w : World) (hs : s.size ≤ 9223372036854775807) : Calls Tryd.prog 22 #[.int .u8 z, .string s] w (Says (memB z s.data.toList) w) := by
  go_enter Tryd.func22, Tryd.ntmps22
  go_wp2
  go_loop [5] (fun i => ∃ k : Nat, k ≤ s.size ∧ i = .int .i64 k ∧ memB z (s.data.toList.take k) = false) (fun i => s.size - (intOf i).toNat)
  case atStart => exact ⟨0, Nat.zero_le _, rfl, rfl⟩
  case round =>
    obtain ⟨k, hk, rfl, hm⟩ := hrel
    have Hm := Lib.hid hm
    clear hm
    by_cases hlt : k < s.size
    · have Hs := Lib.hid (memB_snoc z s k hlt)
      have Hy := Lib.hid (memB_yes z s k hlt)
      go_wp2
      · go_ret
        exact says_of w (by go_light; simp at *; rw [Hy.out (by assumption)])
      · go_round
        case rel => exact ⟨k + 1, by omega, by go_num, by rw [Hs.out, Hm.out]; go_light; simp at *; assumption⟩
        case measure => simp [intOf]; omega
    · go_wp2
      go_ret
      exact says_of w (memB_no z s k (by omega) Hm.out).symm

/-! ### the texts of the reference's classes -/
abbrev textLetters : ByteArray := ⟨#[65, 66, 67, 68, 69, 70, 71, 72, 73, 74, 75, 76, 77, 78, 79, 80, 81, 82, 83, 84, 85, 86, 87, 88, 89, 90, 97, 98, 99, 100, 101, 102, 103, 104, 105, 106, 107, 108, 109, 110, 111, 112, 113, 114, 115, 116, 117, 118, 119, 120, 121, 122]⟩
abbrev textDigits : ByteArray := ⟨#[48, 49, 50, 51, 52, 53, 54, 55, 56, 57]⟩
abbrev textToken : ByteArray := ⟨#[33, 35, 36, 37, 38, 39, 42, 43, 45, 46, 94, 95, 96, 124, 126]⟩
abbrev textUnres : ByteArray := ⟨#[45, 46, 95, 126]⟩
abbrev textPath : ByteArray := ⟨#[45, 46, 95, 126, 33, 36, 38, 39, 40, 41, 42, 43, 44, 59, 61, 58, 64]⟩
theorem of_fin {f g : Int → Bool} (h : ∀ n : Fin 256, f (n.val : Int) = g (n.val : Int)) {z : Int} (h0 : 0 ≤ z) (h1 : z ≤ 255) : f z = g z := by
  have := h ⟨z.toNat, by omega⟩
  simpa [Int.toNat_of_nonneg h0] using this
theorem mem_letters {z : Int} (h0 : 0 ≤ z) (h1 : z ≤ 255) : memB z textLetters.data.toList = letterB z := of_fin (f := fun z => memB z textLetters.data.toList) (g := letterB) (by decide +kernel) h0 h1
theorem mem_digits {z : Int} (h0 : 0 ≤ z) (h1 : z ≤ 255) : memB z textDigits.data.toList = digitB z := of_fin (f := fun z => memB z textDigits.data.toList) (g := digitB) (by decide +kernel) h0 h1
theorem mem_token {z : Int} (h0 : 0 ≤ z) (h1 : z ≤ 255) : (letterB z || digitB z || memB z textToken.data.toList) = tokenB z := of_fin (f := fun z => letterB z || digitB z || memB z textToken.data.toList) (g := tokenB) (by decide +kernel) h0 h1
theorem mem_unres {z : Int} (h0 : 0 ≤ z) (h1 : z ≤ 255) : (letterB z || digitB z || memB z textUnres.data.toList) = unresB z := of_fin (f := fun z => letterB z || digitB z || memB z textUnres.data.toList) (g := unresB) (by decide +kernel) h0 h1
theorem mem_path {z : Int} (h0 : 0 ≤ z) (h1 : z ≤ 255) : (letterB z || digitB z || memB z textPath.data.toList) = pathB z := of_fin (f := fun z => letterB z || digitB z || memB z textPath.data.toList) (g := pathB) (by decide +kernel) h0 h1

theorem letters_any (w : World) : Calls Tryd.prog 42 #[] w fun e w' => e = .returned (.string textLetters) ∧ w = w' := by
  go_enter Tryd.func42, Tryd.ntmps42
  go_wp2
  go_ret
  exact ⟨rfl, rfl⟩
theorem in_letters (z : Int) (w : World) (h0 : 0 ≤ z) (h1 : z ≤ 255) : Calls Tryd.prog 22 #[.int .u8 z, .string textLetters] w (Says (letterB z) w) := by
  rw [← mem_letters h0 h1]; exact in_any z textLetters w (by decide)
theorem in_digits (z : Int) (w : World) (h0 : 0 ≤ z) (h1 : z ≤ 255) : Calls Tryd.prog 22 #[.int .u8 z, .string textDigits] w (Says (digitB z) w) := by
  rw [← mem_digits h0 h1]; exact in_any z textDigits w (by decide)

set_option maxRecDepth 100000 in
theorem class0 (z : Int) (w : World) (h0 : 0 ≤ z) (h1 : z ≤ 255) : Calls Tryd.prog 36 #[.int .u8 z, .int .i64 0] w (Says (letterB z) w) := by
  go_enter Tryd.func36, Tryd.ntmps36
  go_wp2_with fail
  refine (letters_any _).mono ?_
  rintro e w' ⟨rfl, rfl⟩
  go_wp2_with fail
  refine (in_letters z _ h0 h1).mono ?_
  rintro e w' ⟨rfl, rfl⟩
  go_wp2_with fail
  refine (in_digits z _ h0 h1).mono ?_
  rintro e w' ⟨rfl, rfl⟩
  go_wp2_with fail
  go_ret
  exact says_of w rfl
set_option maxRecDepth 100000 in
theorem class1 (z : Int) (w : World) (h0 : 0 ≤ z) (h1 : z ≤ 255) : Calls Tryd.prog 36 #[.int .u8 z, .int .i64 1] w (Says (digitB z) w) := by
  go_enter Tryd.func36, Tryd.ntmps36
  go_wp2_with fail
  refine (letters_any _).mono ?_
  rintro e w' ⟨rfl, rfl⟩
  go_wp2_with fail
  refine (in_letters z _ h0 h1).mono ?_
  rintro e w' ⟨rfl, rfl⟩
  go_wp2_with fail
  refine (in_digits z _ h0 h1).mono ?_
  rintro e w' ⟨rfl, rfl⟩
  go_wp2_with fail
  go_ret
  exact says_of w rfl
set_option maxRecDepth 100000 in
theorem class2 (z : Int) (w : World) (h0 : 0 ≤ z) (h1 : z ≤ 255) : Calls Tryd.prog 36 #[.int .u8 z, .int .i64 2] w (Says (tokenB z) w) := by
  go_enter Tryd.func36, Tryd.ntmps36
  go_wp2_with fail
  refine (letters_any _).mono ?_
  rintro e w' ⟨rfl, rfl⟩
  go_wp2_with fail
  refine (in_letters z _ h0 h1).mono ?_
  rintro e w' ⟨rfl, rfl⟩
  go_wp2_with fail
  refine (in_digits z _ h0 h1).mono ?_
  rintro e w' ⟨rfl, rfl⟩
  have M := mem_token h0 h1
  have M := Lib.hid M
  by_cases hl : letterB z = true
  · go_wp2_with fail
    go_ret
    exact says_of w (by rw [← M.out]; simp [hl])
  · by_cases hd : digitB z = true
    · go_wp2_with fail
      go_ret
      exact says_of w (by rw [← M.out]; simp [hl, hd])
    · go_wp2_with fail
      refine (in_any z _ _ (by decide)).mono ?_
      rintro e w' ⟨rfl, rfl⟩
      go_wp2_with fail
      go_ret
      exact says_of w (by rw [← M.out]; simp [hl, hd])
set_option maxRecDepth 100000 in
theorem class3 (z : Int) (w : World) (h0 : 0 ≤ z) (h1 : z ≤ 255) : Calls Tryd.prog 36 #[.int .u8 z, .int .i64 3] w (Says (unresB z) w) := by
  go_enter Tryd.func36, Tryd.ntmps36
  go_wp2_with fail
  refine (letters_any _).mono ?_
  rintro e w' ⟨rfl, rfl⟩
  go_wp2_with fail
  refine (in_letters z _ h0 h1).mono ?_
  rintro e w' ⟨rfl, rfl⟩
  go_wp2_with fail
  refine (in_digits z _ h0 h1).mono ?_
  rintro e w' ⟨rfl, rfl⟩
  have M := mem_unres h0 h1
  have M := Lib.hid M
  by_cases hl : letterB z = true
  · go_wp2_with fail
    go_ret
    exact says_of w (by rw [← M.out]; simp [hl])
  · by_cases hd : digitB z = true
    · go_wp2_with fail
      go_ret
      exact says_of w (by rw [← M.out]; simp [hl, hd])
    · go_wp2_with fail
      refine (in_any z _ _ (by decide)).mono ?_
      rintro e w' ⟨rfl, rfl⟩
      go_wp2_with fail
      go_ret
      exact says_of w (by rw [← M.out]; simp [hl, hd])
set_option maxRecDepth 100000 in
theorem class4 (z : Int) (w : World) (h0 : 0 ≤ z) (h1 : z ≤ 255) : Calls Tryd.prog 36 #[.int .u8 z, .int .i64 4] w (Says (pathB z) w) := by
  go_enter Tryd.func36, Tryd.ntmps36
  go_wp2_with fail
  refine (letters_any _).mono ?_
  rintro e w' ⟨rfl, rfl⟩
  go_wp2_with fail
  refine (in_letters z _ h0 h1).mono ?_
  rintro e w' ⟨rfl, rfl⟩
  go_wp2_with fail
  refine (in_digits z _ h0 h1).mono ?_
  rintro e w' ⟨rfl, rfl⟩
  have M := mem_path h0 h1
  have M := Lib.hid M
  by_cases hl : letterB z = true
  · go_wp2_with fail
    go_ret
    exact says_of w (by rw [← M.out]; simp [hl])
  · by_cases hd : digitB z = true
    · go_wp2_with fail
      go_ret
      exact says_of w (by rw [← M.out]; simp [hl, hd])
    · go_wp2_with fail
      refine (in_any z _ _ (by decide)).mono ?_
      rintro e w' ⟨rfl, rfl⟩
      go_wp2_with fail
      go_ret
      exact says_of w (by rw [← M.out]; simp [hl, hd])
set_option maxRecDepth 100000 in
theorem class5 (z : Int) (w : World) (h0 : 0 ≤ z) (h1 : z ≤ 255) : Calls Tryd.prog 36 #[.int .u8 z, .int .i64 5] w (Says (fieldB z) w) := by
  go_enter Tryd.func36, Tryd.ntmps36
  go_wp2_with fail
  refine (letters_any _).mono ?_
  rintro e w' ⟨rfl, rfl⟩
  go_wp2_with fail
  refine (in_letters z _ h0 h1).mono ?_
  rintro e w' ⟨rfl, rfl⟩
  go_wp2_with fail
  refine (in_digits z _ h0 h1).mono ?_
  rintro e w' ⟨rfl, rfl⟩
  go_wp2_with fail
  all_goals
    go_ret
    exact says_of w (by rw [Bool.eq_iff_iff]; go_light; simp [fieldB]; try omega)

/-! ### all bytes of a string -/
def allB (B : Int → Bool) (l : List UInt8) : Bool := l.all fun b => B (b.toNat : Int)
theorem allB_snoc (B : Int → Bool) (s : ByteArray) (k : Nat) (h : k < s.size) : allB B (s.data.toList.take (k + 1)) = (allB B (s.data.toList.take k) && B (s[k].toNat : Int)) := by
  rw [take_snoc s k h]; simp [allB]
theorem allB_no (B : Int → Bool) (s : ByteArray) (k : Nat) (h : k < s.size) (he : B (s[k].toNat : Int) = false) : allB B s.data.toList = false := by
  unfold allB
  rw [List.all_eq_false]
  exact ⟨s[k], by rw [show s[k] = s.data[k] from rfl]; simp, by simpa using he⟩
theorem allB_yes (B : Int → Bool) (s : ByteArray) (k : Nat) (h : s.size ≤ k) (he : allB B (s.data.toList.take k) = true) : allB B s.data.toList = true := by
  rwa [List.take_of_length_le (by simpa using h)] at he
theorem byte_le (b : UInt8) : (b.toNat : Int) ≤ 255 := by have := b.toNat_lt; omega

set_option maxRecDepth 100000 in
theorem refAll_any (s : ByteArray) (k : Int) (B : Int → Bool) (w : World) (hs : s.size ≤ 9223372036854775807) (hB : ∀ (z : Int) (w : World), 0 ≤ z → z ≤ 255 → Calls Tryd.prog 36 #[.int .u8 z, .int .i64 k] w (Says (B z) w)) :
    Calls Tryd.prog 27 #[.string s, .int .i64 k] w (Says (allB B s.data.toList) w) := by
  have HB := Lib.hid hB
  clear hB
  go_enter Tryd.func27, Tryd.ntmps27
  go_wp2
  go_loop [5] (fun i => ∃ k : Nat, k ≤ s.size ∧ i = .int .i64 k ∧ allB B (s.data.toList.take k) = true) (fun i => s.size - (intOf i).toNat)
  case atStart => exact ⟨0, Nat.zero_le _, rfl, rfl⟩
  case round =>
    obtain ⟨n, hk, rfl, hm⟩ := hrel
    have Hm := Lib.hid hm
    clear hm
    by_cases hlt : n < s.size
    · have Hs := Lib.hid (allB_snoc B s n hlt)
      have Hy := Lib.hid (allB_no B s n hlt)
      go_wp2_with fail
      refine (HB.out _ _ (by omega) (byte_le _)).mono ?_
      rintro e w' ⟨rfl, rfl⟩
      by_cases hb : B (s[n].toNat : Int) = true
      · go_wp2_with fail
        go_round
        case rel => exact ⟨n + 1, by omega, by go_num, by rw [Hs.out, Hm.out, hb]; rfl⟩
        case measure => simp [intOf]; omega
      · go_wp2_with fail
        go_ret
        exact says_of w (by rw [Hy.out (by simpa using hb)])
    · go_wp2
      go_ret
      exact says_of w (by rw [allB_yes B s n (by omega) Hm.out])

set_option maxRecDepth 100000 in
theorem refIsToken_any (s : ByteArray) (w : World) (hs : s.size ≤ 9223372036854775807) :
    Calls Tryd.prog 19 #[.string s] w (Says (decide (0 < s.size) && allB tokenB s.data.toList) w) := by
  go_enter Tryd.func19, Tryd.ntmps19
  by_cases h : 0 < s.size
  · go_wp2_with fail
    refine (refAll_any s 2 tokenB _ hs (fun z w h0 h1 => class2 z w h0 h1)).mono ?_
    rintro e w' ⟨rfl, rfl⟩
    go_wp2_with fail
    go_ret
    exact says_of w (by simp [h])
  · go_wp2_with fail
    go_ret
    exact says_of w (by simp [h])

/-! ### the value of a hexadecimal digit -/
def hexN (z : Int) : Int := (hexV z).getD (-1)
def hexAt (k : Nat) (z : Int) : Bool := decide ((([48, 49, 50, 51, 52, 53, 54, 55, 56, 57, 97, 98, 99, 100, 101, 102] : List Nat).getD k 0 : Int) = z) || decide ((([48, 49, 50, 51, 52, 53, 54, 55, 56, 57, 65, 66, 67, 68, 69, 70] : List Nat).getD k 0 : Int) = z)
theorem hex_hit : ∀ k : Fin 16, ∀ n : Fin 256, hexAt k.val (n.val : Int) = true → hexN (n.val : Int) = (k.val : Int) := by decide +kernel
theorem hex_miss : ∀ n : Fin 256, (∀ k : Fin 16, hexAt k.val (n.val : Int) = false) → hexN (n.val : Int) = -1 := by decide +kernel
def SaysInt (n : Int) (w : World) (e : Ending) (w' : World) : Prop := e = .returned (.int .i64 n) ∧ w = w'
end Go.Proofs.YtfmcdhohmpffbaaDoor
