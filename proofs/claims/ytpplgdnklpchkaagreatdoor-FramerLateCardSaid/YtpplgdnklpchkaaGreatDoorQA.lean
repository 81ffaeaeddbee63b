/- Texts of one seat, merged: OctA, OctB, OctC, OctD, OctE, OctM, OctF, OctG, Byt, OctH. -/
import Derived.Test.YtpplgdnklpchkaaGreatDoorProg
import Derived.WalkKit
import Derived.Outline
import Derived.Lib.Hide
import Derived.Deep.Light
import Derived.Deep.QuietTactic
import Derived.BigQuiet
import Derived.Defers
import Derived.Recover
import Derived.Laws.Pointers
import Derived.Below
import Derived.Laws.IdiomStrings
import Derived.Deep.MidRow
import Derived.Laws.AppendOwn
import Derived.Laws.MakeOwn
import Derived.Laws.AppendOwnNone
import Derived.Deep.OwnRows
import Derived.OneCell
import Derived.Lib.BufferWrite
namespace Go.Proofs.YtpplgdnklpchkaaGreatDoor
set_option linter.all false
open Go.RowKit
def Says (b : Bool) (w : World) (e : Ending) (w' : World) : Prop := e = .returned (.bool b) /\ w = w'
theorem says_of {a b : Bool} (w : World) (h : a = b) : Says b w (.returned (.bool a)) w := ⟨by rw [h], rfl⟩
def letterB (z : Int) : Bool := decide (65 <= z /\ z <= 90 \/ 97 <= z /\ z <= 122)
def digitB (z : Int) : Bool := decide (48 <= z /\ z <= 57)
def unresB (z : Int) : Bool := decide (65 <= z /\ z <= 90 \/ 97 <= z /\ z <= 122 \/ 48 <= z /\ z <= 57 \/ z = 45 \/ z = 46 \/ z = 95 \/ z = 126)
def tokenB (z : Int) : Bool := unresB z || decide (z = 33 \/ z = 35 \/ z = 36 \/ z = 37 \/ z = 38 \/ z = 39 \/ z = 42 \/ z = 43 \/ z = 94 \/ z = 96 \/ z = 124)
def fieldB (z : Int) : Bool := decide (z = 9 \/ 32 <= z /\ z ≠ 127)
def hexV (z : Int) : Option Int := if 48 <= z /\ z <= 57 then some (z - 48) else if 97 <= z /\ z <= 102 then some (z - 87) else if 65 <= z /\ z <= 70 then some (z - 55) else none
theorem letter_any (z : Int) (w : World) : Calls Tryz.prog 163 #[.int .u8 z] w (Says (letterB z) w) := by
 go_enter Tryz.func163, Tryz.ntmps163
 go_wp2
 all_goals
  go_ret
  exact says_of w (by rw [Bool.eq_iff_iff]; simp [letterB]; omega)
theorem digit_any (z : Int) (w : World) : Calls Tryz.prog 124 #[.int .u8 z] w (Says (digitB z) w) := by
 go_enter Tryz.func124, Tryz.ntmps124
 go_wp2
 all_goals
  go_ret
  exact says_of w (by rw [Bool.eq_iff_iff]; simp [digitB]; omega)
theorem field_any (z : Int) (w : World) : Calls Tryz.prog 135 #[.int .u8 z] w (Says (fieldB z) w) := by
 go_enter Tryz.func135, Tryz.ntmps135
 go_wp2
 all_goals
  go_ret
  exact says_of w (by rw [Bool.eq_iff_iff]; go_light; simp [fieldB]; try omega)
set_option maxRecDepth 100000 in
theorem unres_any (z : Int) (w : World) : Calls Tryz.prog 146 #[.int .u8 z] w (Says (unresB z) w) := by
 go_enter Tryz.func146, Tryz.ntmps146
 go_wp2_with fail
 refine (letter_any _ _).mono ?_
 rintro e w' ⟨rfl, rfl⟩
 by_cases hl : letterB z = true
 ·go_wp2
  go_ret
  exact says_of w (by rw [Bool.eq_iff_iff]; simp [letterB] at hl; simp [unresB]; omega)
 ·go_wp2_with fail
  refine (digit_any _ _).mono ?_
  rintro e w' ⟨rfl, rfl⟩
  by_cases hd : digitB z = true
  all_goals
   go_wp2
   all_goals
    go_ret
    exact says_of w (by rw [Bool.eq_iff_iff]; go_light; simp [letterB, digitB, unresB] at *; omega)
set_option maxRecDepth 100000 in
theorem token_any (z : Int) (w : World) : Calls Tryz.prog 121 #[.int .u8 z] w (Says (tokenB z) w) := by
 go_enter Tryz.func121, Tryz.ntmps121
 go_wp2_with fail
 refine (unres_any _ _).mono ?_
 rintro e w' ⟨rfl, rfl⟩
 by_cases hl : unresB z = true
 all_goals
  go_wp2
  all_goals
   go_ret
   exact says_of w (by rw [Bool.eq_iff_iff]; go_light; simp at *; simp [tokenB, hl]; try omega)
def SaysHex (o : Option Int) (w : World) (e : Ending) (w' : World) : Prop := e = .returned (.tuple #[.int .i64 (o.getD 0), .bool o.isSome]) /\ w = w'
theorem saysHex_of {a : Int} {b : Bool} {o : Option Int} (w : World) (h : a = o.getD 0) (h' : b = o.isSome) : SaysHex o w (.returned (.tuple #[.int .i64 a, .bool b])) w := ⟨by rw [h, h'], rfl⟩
set_option maxRecDepth 100000 in
theorem hex_any (z : Int) (w : World) (h0 : 0 <= z) (h1 : z <= 255) : Calls Tryz.prog 186 #[.int .u8 z] w (SaysHex (hexV z) w) := by
 go_enter Tryz.func186, Tryz.ntmps186
 go_wp2_with fail
 refine (digit_any _ _).mono ?_
 rintro e w' ⟨rfl, rfl⟩
 by_cases hd : digitB z = true
 all_goals
  go_wp2
  all_goals
   go_ret2
   exact saysHex_of w (by go_light; simp [digitB] at *; unfold hexV; (repeat' split) <;> simp <;> omega) (by go_light; simp [digitB] at *; unfold hexV; (repeat' split) <;> simp <;> omega)
end Go.Proofs.YtpplgdnklpchkaaGreatDoor
namespace Go.Proofs.YtpplgdnklpchkaaGreatDoor
set_option linter.all false
open Go.RowKit
def memB (z : Int) (l : List UInt8) : Bool := l.any fun b => decide ((b.toNat : Int) = z)
theorem take_snoc (s : ByteArray) (k : Nat) (h : k < s.size) : s.data.toList.take (k + 1) = s.data.toList.take k ++ [s[k]] := by
 rw [List.take_succ_eq_append_getElem (by simpa using h)]; rfl
theorem memB_snoc (z : Int) (s : ByteArray) (k : Nat) (h : k < s.size) : memB z (s.data.toList.take (k + 1)) = (memB z (s.data.toList.take k) || decide ((s[k].toNat : Int) = z)) := by
 rw [take_snoc s k h]; simp [memB]
theorem memB_yes (z : Int) (s : ByteArray) (k : Nat) (h : k < s.size) (he : (s[k].toNat : Int) = z) : memB z s.data.toList = true := by
 unfold memB
 rw [List.any_eq_true]
 exact ⟨s[k], by rw [show s[k] = s.data[k] from rfl]; simp, by simpa using he⟩
theorem memB_no (z : Int) (s : ByteArray) (k : Nat) (h : s.size <= k) (he : memB z (s.data.toList.take k) = false) : memB z s.data.toList = false := by
 rwa [List.take_of_length_le (by simpa using h)] at he
set_option maxRecDepth 100000 in
theorem in_any (z : Int) (s : ByteArray) (w : World) (hs : s.size <= 9223372036854775807) : Calls Tryz.prog 71 #[.int .u8 z, .string s] w (Says (memB z s.data.toList) w) := by
 go_enter Tryz.func71, Tryz.ntmps71
 go_wp2
 go_loop [5] (fun i => ∃ k : Nat, k <= s.size /\ i = .int .i64 k /\ memB z (s.data.toList.take k) = false) (fun i => s.size - (intOf i).toNat)
 case atStart => exact ⟨0, Nat.zero_le _, rfl, rfl⟩
 case round =>
  obtain ⟨k, hk, rfl, hm⟩ := hrel
  have Hm := Lib.hid hm
  clear hm
  by_cases hlt : k < s.size
  ·have Hs := Lib.hid (memB_snoc z s k hlt)
   have Hy := Lib.hid (memB_yes z s k hlt)
   go_wp2
   ·go_ret
    exact says_of w (by go_light; simp at *; rw [Hy.out (by assumption)])
   ·go_round
    case rel => exact ⟨k + 1, by omega, by go_num, by rw [Hs.out, Hm.out]; go_light; simp at *; assumption⟩
    case measure => simp [intOf]; omega
  ·go_wp2
   go_ret
   exact says_of w (memB_no z s k (by omega) Hm.out).symm
abbrev textLetters : ByteArray := ⟨#[65, 66, 67, 68, 69, 70, 71, 72, 73, 74, 75, 76, 77, 78, 79, 80, 81, 82, 83, 84, 85, 86, 87, 88, 89, 90, 97, 98, 99, 100, 101, 102, 103, 104, 105, 106, 107, 108, 109, 110, 111, 112, 113, 114, 115, 116, 117, 118, 119, 120, 121, 122]⟩
abbrev textDigits : ByteArray := ⟨#[48, 49, 50, 51, 52, 53, 54, 55, 56, 57]⟩
abbrev textToken : ByteArray := ⟨#[33, 35, 36, 37, 38, 39, 42, 43, 45, 46, 94, 95, 96, 124, 126]⟩
theorem of_fin {f g : Int -> Bool} (h : ∀ n : Fin 256, f (n.val : Int) = g (n.val : Int)) {z : Int} (h0 : 0 <= z) (h1 : z <= 255) : f z = g z := by
 have := h ⟨z.toNat, by omega⟩
 simpa [Int.toNat_of_nonneg h0] using this
theorem mem_letters {z : Int} (h0 : 0 <= z) (h1 : z <= 255) : memB z textLetters.data.toList = letterB z := of_fin (f := fun z => memB z textLetters.data.toList) (g := letterB) (by decide +kernel) h0 h1
theorem mem_digits {z : Int} (h0 : 0 <= z) (h1 : z <= 255) : memB z textDigits.data.toList = digitB z := of_fin (f := fun z => memB z textDigits.data.toList) (g := digitB) (by decide +kernel) h0 h1
theorem mem_token {z : Int} (h0 : 0 <= z) (h1 : z <= 255) : (letterB z || digitB z || memB z textToken.data.toList) = tokenB z := of_fin (f := fun z => letterB z || digitB z || memB z textToken.data.toList) (g := tokenB) (by decide +kernel) h0 h1
theorem letters_any (w : World) : Calls Tryz.prog 72 #[] w fun e w' => e = .returned (.string textLetters) /\ w = w' := by
 go_enter Tryz.func72, Tryz.ntmps72
 go_wp2
 go_ret
 exact ⟨rfl, rfl⟩
theorem in_letters (z : Int) (w : World) (h0 : 0 <= z) (h1 : z <= 255) : Calls Tryz.prog 71 #[.int .u8 z, .string textLetters] w (Says (letterB z) w) := by
 rw [<- mem_letters h0 h1]; exact in_any z textLetters w (by decide)
theorem in_digits (z : Int) (w : World) (h0 : 0 <= z) (h1 : z <= 255) : Calls Tryz.prog 71 #[.int .u8 z, .string textDigits] w (Says (digitB z) w) := by
 rw [<- mem_digits h0 h1]; exact in_any z textDigits w (by decide)
set_option maxRecDepth 100000 in
theorem class1 (z : Int) (w : World) (h0 : 0 <= z) (h1 : z <= 255) : Calls Tryz.prog 49 #[.int .u8 z, .int .i64 1] w (Says (digitB z) w) := by
 go_enter Tryz.func49, Tryz.ntmps49
 go_wp2_with fail
 refine (letters_any _).mono ?_
 rintro e w' ⟨rfl, rfl⟩
 go_wp2_with fail
 refine (in_letters z _ h0 h1).mono ?_
 rintro e w' ⟨rfl, rfl⟩
 go_wp2_with fail
 refine (in_digits z _ h0 h1).mono ?_
 rintro e w' ⟨rfl, rfl⟩
 go_wp2_with fail
 go_ret
 exact says_of w rfl
set_option maxRecDepth 100000 in
theorem class2 (z : Int) (w : World) (h0 : 0 <= z) (h1 : z <= 255) : Calls Tryz.prog 49 #[.int .u8 z, .int .i64 2] w (Says (tokenB z) w) := by
 go_enter Tryz.func49, Tryz.ntmps49
 go_wp2_with fail
 refine (letters_any _).mono ?_
 rintro e w' ⟨rfl, rfl⟩
 go_wp2_with fail
 refine (in_letters z _ h0 h1).mono ?_
 rintro e w' ⟨rfl, rfl⟩
 go_wp2_with fail
 refine (in_digits z _ h0 h1).mono ?_
 rintro e w' ⟨rfl, rfl⟩
 have M := mem_token h0 h1
 have M := Lib.hid M
 by_cases hl : letterB z = true
 ·go_wp2_with fail
  go_ret
  exact says_of w (by rw [<- M.out]; simp [hl])
 ·by_cases hd : digitB z = true
  ·go_wp2_with fail
   go_ret
   exact says_of w (by rw [<- M.out]; simp [hl, hd])
  ·go_wp2_with fail
   refine (in_any z _ _ (by decide)).mono ?_
   rintro e w' ⟨rfl, rfl⟩
   go_wp2_with fail
   go_ret
   exact says_of w (by rw [<- M.out]; simp [hl, hd])
set_option maxRecDepth 100000 in
theorem class5 (z : Int) (w : World) (h0 : 0 <= z) (h1 : z <= 255) : Calls Tryz.prog 49 #[.int .u8 z, .int .i64 5] w (Says (fieldB z) w) := by
 go_enter Tryz.func49, Tryz.ntmps49
 go_wp2_with fail
 refine (letters_any _).mono ?_
 rintro e w' ⟨rfl, rfl⟩
 go_wp2_with fail
 refine (in_letters z _ h0 h1).mono ?_
 rintro e w' ⟨rfl, rfl⟩
 go_wp2_with fail
 refine (in_digits z _ h0 h1).mono ?_
 rintro e w' ⟨rfl, rfl⟩
 go_wp2_with fail
 all_goals
  go_ret
  exact says_of w (by rw [Bool.eq_iff_iff]; go_light; simp [fieldB]; try omega)
def allB (B : Int -> Bool) (l : List UInt8) : Bool := l.all fun b => B (b.toNat : Int)
theorem allB_snoc (B : Int -> Bool) (s : ByteArray) (k : Nat) (h : k < s.size) : allB B (s.data.toList.take (k + 1)) = (allB B (s.data.toList.take k) && B (s[k].toNat : Int)) := by
 rw [take_snoc s k h]; simp [allB]
theorem allB_no (B : Int -> Bool) (s : ByteArray) (k : Nat) (h : k < s.size) (he : B (s[k].toNat : Int) = false) : allB B s.data.toList = false := by
 unfold allB
 rw [List.all_eq_false]
 exact ⟨s[k], by rw [show s[k] = s.data[k] from rfl]; simp, by simpa using he⟩
theorem allB_yes (B : Int -> Bool) (s : ByteArray) (k : Nat) (h : s.size <= k) (he : allB B (s.data.toList.take k) = true) : allB B s.data.toList = true := by
 rwa [List.take_of_length_le (by simpa using h)] at he
theorem byte_le (b : UInt8) : (b.toNat : Int) <= 255 := by have := b.toNat_lt; omega
set_option maxRecDepth 100000 in
theorem refAll_any (s : ByteArray) (k : Int) (B : Int -> Bool) (w : World) (hs : s.size <= 9223372036854775807) (hB : ∀ (z : Int) (w : World), 0 <= z -> z <= 255 -> Calls Tryz.prog 49 #[.int .u8 z, .int .i64 k] w (Says (B z) w)) :
  Calls Tryz.prog 70 #[.string s, .int .i64 k] w (Says (allB B s.data.toList) w) := by
 have HB := Lib.hid hB
 clear hB
 go_enter Tryz.func70, Tryz.ntmps70
 go_wp2
 go_loop [5] (fun i => ∃ k : Nat, k <= s.size /\ i = .int .i64 k /\ allB B (s.data.toList.take k) = true) (fun i => s.size - (intOf i).toNat)
 case atStart => exact ⟨0, Nat.zero_le _, rfl, rfl⟩
 case round =>
  obtain ⟨n, hk, rfl, hm⟩ := hrel
  have Hm := Lib.hid hm
  clear hm
  by_cases hlt : n < s.size
  ·have Hs := Lib.hid (allB_snoc B s n hlt)
   have Hy := Lib.hid (allB_no B s n hlt)
   go_wp2_with fail
   refine (HB.out _ _ (by omega) (byte_le _)).mono ?_
   rintro e w' ⟨rfl, rfl⟩
   by_cases hb : B (s[n].toNat : Int) = true
   ·go_wp2_with fail
    go_round
    case rel => exact ⟨n + 1, by omega, by go_num, by rw [Hs.out, Hm.out, hb]; rfl⟩
    case measure => simp [intOf]; omega
   ·go_wp2_with fail
    go_ret
    exact says_of w (by rw [Hy.out (by simpa using hb)])
  ·go_wp2
   go_ret
   exact says_of w (by rw [allB_yes B s n (by omega) Hm.out])
set_option maxRecDepth 100000 in
theorem refIsToken_any (s : ByteArray) (w : World) (hs : s.size <= 9223372036854775807) :
  Calls Tryz.prog 48 #[.string s] w (Says (decide (0 < s.size) && allB tokenB s.data.toList) w) := by
 go_enter Tryz.func48, Tryz.ntmps48
 by_cases h : 0 < s.size
 ·go_wp2_with fail
  refine (refAll_any s 2 tokenB _ hs (fun z w h0 h1 => class2 z w h0 h1)).mono ?_
  rintro e w' ⟨rfl, rfl⟩
  go_wp2_with fail
  go_ret
  exact says_of w (by simp [h])
 ·go_wp2_with fail
  go_ret
  exact says_of w (by simp [h])
def hexN (z : Int) : Int := (hexV z).getD (-1)
def hexAt (k : Nat) (z : Int) : Bool := decide ((([48, 49, 50, 51, 52, 53, 54, 55, 56, 57, 97, 98, 99, 100, 101, 102] : List Nat).getD k 0 : Int) = z) || decide ((([48, 49, 50, 51, 52, 53, 54, 55, 56, 57, 65, 66, 67, 68, 69, 70] : List Nat).getD k 0 : Int) = z)
theorem hex_hit : ∀ k : Fin 16, ∀ n : Fin 256, hexAt k.val (n.val : Int) = true -> hexN (n.val : Int) = (k.val : Int) := by decide +kernel
theorem hex_miss : ∀ n : Fin 256, (∀ k : Fin 16, hexAt k.val (n.val : Int) = false) -> hexN (n.val : Int) = -1 := by decide +kernel
def SaysInt (n : Int) (w : World) (e : Ending) (w' : World) : Prop := e = .returned (.int .i64 n) /\ w = w'
end Go.Proofs.YtpplgdnklpchkaaGreatDoor
namespace Go.Proofs.YtpplgdnklpchkaaGreatDoor
set_option linter.all false
open Go.RowKit
abbrev hexLow : ByteArray := ⟨#[48, 49, 50, 51, 52, 53, 54, 55, 56, 57, 97, 98, 99, 100, 101, 102]⟩
abbrev hexUp : ByteArray := ⟨#[48, 49, 50, 51, 52, 53, 54, 55, 56, 57, 65, 66, 67, 68, 69, 70]⟩
theorem low_at : ∀ k : Fin 16, (hexLow[k.val]'k.isLt).toNat = ([48, 49, 50, 51, 52, 53, 54, 55, 56, 57, 97, 98, 99, 100, 101, 102] : List Nat).getD k.val 0 := by decide
theorem up_at : ∀ k : Fin 16, (hexUp[k.val]'k.isLt).toNat = ([48, 49, 50, 51, 52, 53, 54, 55, 56, 57, 65, 66, 67, 68, 69, 70] : List Nat).getD k.val 0 := by decide
theorem hexAt_eq {k : Nat} (hk : k < 16) (z : Int) : hexAt k z = (decide (((hexLow[k]'hk).toNat : Int) = z) || decide (((hexUp[k]'hk).toNat : Int) = z)) := by
 have h1 := low_at ⟨k, hk⟩
 have h2 := up_at ⟨k, hk⟩
 simp only at h1 h2
 unfold hexAt
 rw [h1, h2]
theorem hit_of {k : Nat} (hk : k < 16) {z : Int} (h0 : 0 <= z) (h1 : z <= 255) (h : ((hexLow[k]'hk).toNat : Int) = z \/ ((hexUp[k]'hk).toNat : Int) = z) : (k : Int) = hexN z := by
 have := hex_hit ⟨k, hk⟩ ⟨z.toNat, by omega⟩
 simp only [Int.toNat_of_nonneg h0] at this
 exact (this (by rw [hexAt_eq hk]; simpa using h)).symm
theorem miss_of {z : Int} (h0 : 0 <= z) (h1 : z <= 255) (h : ∀ j, j < 16 -> hexAt j z = false) : -1 = hexN z := by
 have := hex_miss ⟨z.toNat, by omega⟩
 simp only [Int.toNat_of_nonneg h0] at this
 exact (this fun k => h k.val k.isLt).symm
theorem next_of {k : Nat} (hk : k < 16) {z : Int} (h : ∀ j, j < k -> hexAt j z = false) (h1 : ¬ ((hexLow[k]'hk).toNat : Int) = z) (h2 : ¬ ((hexUp[k]'hk).toNat : Int) = z) : ∀ j, j < k + 1 -> hexAt j z = false := by
 intro j hj
 by_cases hjk : j < k
 ·exact h j hjk
 ·obtain rfl : j = k := by omega
  rw [hexAt_eq hk]
  simp [h1, h2]
theorem saysInt_of {a b : Int} (w : World) (h : a = b) : SaysInt b w (.returned (.int .i64 a)) w := ⟨by rw [h], rfl⟩
set_option maxRecDepth 100000 in
theorem refHex_any (z : Int) (w : World) (h0 : 0 <= z) (h1 : z <= 255) : Calls Tryz.prog 88 #[.int .u8 z] w (SaysInt (hexN z) w) := by
 go_enter Tryz.func88, Tryz.ntmps88
 go_wp2
 go_loop [5] (fun i => ∃ k : Nat, k <= 16 /\ i = .int .i64 k /\ ∀ j, j < k -> hexAt j z = false) (fun i => 16 - (intOf i).toNat)
 case atStart => exact ⟨0, Nat.zero_le _, rfl, fun j h => by omega⟩
 case round =>
  obtain ⟨k, hk, rfl, hm⟩ := hrel
  have Hm := Lib.hid hm
  clear hm
  by_cases hlt : k < 16
  ·go_wp2
   ·go_ret
    exact saysInt_of w (hit_of hlt h0 h1 (.inl (by assumption)))
   ·go_ret
    refine saysInt_of w (hit_of hlt h0 h1 ?_)
    go_light
    simp only [beq_iff_eq] at *
    assumption
   ·go_round
    case rel =>
     refine ⟨k + 1, by omega, by go_num, ?_⟩
     go_light
     simp only [beq_eq_false_iff_ne, ne_eq] at *
     exact next_of hlt Hm.out (‹_ /\ _›).1 (‹_ /\ _›).2
    case measure => simp [intOf]; omega
  ·go_wp2
   obtain rfl : k = 16 := by omega
   go_ret
   exact saysInt_of w (miss_of h0 h1 Hm.out)
end Go.Proofs.YtpplgdnklpchkaaGreatDoor
namespace Go.Proofs.YtpplgdnklpchkaaGreatDoor
set_option linter.all false
open Go.RowKit
theorem catch_idle (p : Addr) (w : World) :
  CallsD Tryz.prog 145 #[.pointer (some p)] .returning w fun e u' w' => e = .returned (.tuple #[]) /\ u' = .returning /\ w' = w := by
 refine callsD_of_wpS Tryz.func145 rfl fun c₀ cs hu => ?_
 apply wpS_seq
 apply wpS_region
 simp [wpOpsS, go_sem, recoverD, hu, Tryz.ntmps145, Exit.thenS]
 refine wpS_cond (t := false) (by simp [Act.eval, Array.replicate]) ?_
 simp only [Bool.false_eq_true, if_false]
 refine wpS_of_wp (wp_skip ?_)
 cases c₀
 simp_all [bodyPostS, results, Tryz.results145]
def SaysIn (b : Bool) (w : World) (e : Ending) (w' : World) : Prop := e = .returned (.bool b) /\ Below w.heap.size w w'
theorem below_drewN {B : Nat} {a w : World} (h : Below B a w) (n : Nat) : Below B a (w.drewN n) := ⟨h.os, h.tape, h.output, h.size, h.block⟩
set_option maxRecDepth 100000 in
theorem all_any (s : ByteArray) (f : Nat) (B : Int -> Bool) (w : World) (hs : s.size <= 9223372036854775807)
  (hcall : ∀ (x : Value) (w : World), (callFunc f #[x]).run Tryz.prog w = .ok (.enter f #[x]) w)
  (hB : ∀ (z : Int) (w : World), 0 <= z -> z <= 255 -> Calls Tryz.prog f #[.int .u8 z] w (Says (B z) w)) :
  Calls Tryz.prog 120 #[.string s, .func (.func f) #[] #[]] w (SaysIn (allB B s.data.toList) w) := by
 have hmf : ∀ (fn : Fn) (first cap : Array Value) (w : World), (Instr.makeFunc fn first cap).run Tryz.prog w = .ok (.func fn first cap) w := fun _ _ _ _ => rfl
 have HB := Lib.hid hB
 clear hB
 go_enter_defers Tryz.func120, Tryz.ntmps120
 go_wp2
 go_loop [9] (fun i => ∃ k : Nat, k <= s.size /\ i = .int .i64 k /\ allB B (s.data.toList.take k) = true) (fun i => s.size - (intOf i).toNat)
 case atStart => exact ⟨0, Nat.zero_le _, rfl, rfl⟩
 case round =>
  obtain ⟨n, hk, rfl, hm⟩ := hrel
  have Hm := Lib.hid hm
  clear hm
  by_cases hlt : n < s.size
  ·have Hs := Lib.hid (allB_snoc B s n hlt)
   have Hy := Lib.hid (allB_no B s n hlt)
   go_wp2_with fail
   refine (HB.out _ _ (by omega) (byte_le _)).mono ?_
   rintro e w' ⟨rfl, rfl⟩
   by_cases hb : B (s[n].toNat : Int) = true
   ·go_wp2_with fail
    go_round
    case rel => exact ⟨n + 1, by omega, by go_num, by rw [Hs.out, Hm.out, hb]; rfl⟩
    case measure => simp [intOf]; omega
   ·go_wp2_with fail
    refine leaves_cons (f := 145) (args := #[.pointer (some ⟨w.heap.size, 0, none⟩)]) (by simp) (by simp [go_sem]) ?_
    refine (catch_idle ⟨w.heap.size, 0, none⟩ _).mono ?_
    rintro e u' w'' ⟨rfl, rfl, rfl⟩
    have Hr := Hy.out (by simpa using hb)
    simp [Leaves, settle, results, Tryz.results120, go_sem, SaysIn, Hr]
    exact (Below.refl _ _).alloc (Nat.le_refl _) _
  ·go_wp2
   refine leaves_cons (f := 145) (args := #[.pointer (some ⟨w.heap.size, 0, none⟩)]) (by simp) (by simp [go_sem]) ?_
   refine (catch_idle ⟨w.heap.size, 0, none⟩ _).mono ?_
   rintro e u' w'' ⟨rfl, rfl, rfl⟩
   have Hr := allB_yes B s n (by omega) Hm.out
   simp [Leaves, settle, results, Tryz.results120, go_sem, SaysIn, Hr]
   exact (Below.refl _ _).alloc (Nat.le_refl _) _
end Go.Proofs.YtpplgdnklpchkaaGreatDoor
namespace Go.Proofs.YtpplgdnklpchkaaGreatDoor
set_option linter.all false
open Go.RowKit
def lowI (z : Int) : Int := if 65 <= z /\ z <= 90 then z + 32 else z
def lowU (b : UInt8) : UInt8 := if 65 <= b.toNat /\ b.toNat <= 90 then UInt8.ofNat (b.toNat + 32) else b
def lowS (s : ByteArray) : ByteArray := ⟨(s.data.toList.map lowU).toArray⟩
theorem lowU_toNat (b : UInt8) : ((lowU b).toNat : Int) = lowI (b.toNat : Int) := by
 unfold lowU lowI
 by_cases h : 65 <= b.toNat /\ b.toNat <= 90
 ·rw [if_pos h, if_pos (by omega)]
  simp [UInt8.toNat_ofNat']
  omega
 ·rw [if_neg h, if_neg (by omega)]
def LowSt (s : ByteArray) (B k : Nat) (w : World) : Prop :=
 (∀ j (hj : j < s.size), w.cell? ⟨B, j, none⟩ = some (.int .u8 (if j < k then lowI (s[j].toNat : Int) else (s[j].toNat : Int)))) /\ ∀ j, j < s.size -> w.frozen? ⟨B, j, none⟩ = false
theorem LowSt.start {s : ByteArray} {B : Nat} {w : World} {C : Array Value} {t : TypeId} (hB : w.heap.size = B) (hC : ∀ j (hj : j < s.size), C[j]? = some (.int .u8 (s[j].toNat : Int))) (hn : s.size <= C.size) :
  LowSt s B 0 (w.alloc (.cells C t (C.size, C.size + 1))).drew := by
 subst hB
 refine ⟨fun j hj => ?_, fun j hj => ?_⟩
 ·show (w.alloc _).cell? _ = _
  rw [World.cell?_alloc_mark, hC j hj]
  simp
 ·show (w.alloc _).frozen? _ = _
  rw [World.frozen?_alloc_mark]
  simp; omega
theorem LowSt.stay {s : ByteArray} {B k : Nat} {w : World} (h : LowSt s B k w) (hk : k < s.size) (hz : lowI (s[k].toNat : Int) = (s[k].toNat : Int)) : LowSt s B (k + 1) w := by
 refine ⟨fun j hj => ?_, h.2⟩
 rw [h.1 j hj]
 by_cases hjk : j < k
 ·rw [if_pos hjk, if_pos (by omega)]
 ·by_cases hj2 : j = k
  ·subst hj2; rw [if_neg hjk, if_pos (by omega), hz]
  ·rw [if_neg hjk, if_neg (by omega)]
theorem LowSt.put {s : ByteArray} {B k : Nat} {w : World} (h : LowSt s B k w) (hk : k < s.size) : LowSt s B (k + 1) (w.setCell ⟨B, k, none⟩ (.int .u8 (lowI (s[k].toNat : Int)))) := by
 refine ⟨fun j hj => ?_, fun j hj => ?_⟩
 ·by_cases hj2 : j = k
  ·subst hj2
   have := World.cell?_setCell_same (w := w) (a := ⟨B, j, none⟩) (v := .int .u8 (lowI (s[j].toNat : Int))) (h.1 j hj)
   rw [this, if_pos (by omega)]
  ·rw [World.cell?_setCell_other (h := fun h => hj2 (by injection h with h1 h2; exact h2.symm)), h.1 j hj]
   by_cases hjk : j < k
   ·rw [if_pos hjk, if_pos (by omega)]
   ·rw [if_neg hjk, if_neg (by omega)]
 ·rw [World.frozen?_setCell]; exact h.2 j hj
theorem lowI_yes {z : Int} (h : 65 <= z) (h' : z <= 90) : lowI z = z + 32 := if_pos ⟨h, h'⟩
theorem lowI_no {z : Int} (h : ¬ (65 <= z /\ z <= 90)) : lowI z = z := if_neg h
theorem LowSt.back {s : ByteArray} {B cap : Nat} {w : World} (h : LowSt s B s.size w) :
  (convert 22 9 (.slice (some ⟨B, 0, none⟩) s.size cap)).run Tryz.prog w = .ok (.string (lowS s)) w := by
 have := run_convert_bytes_back (P := Tryz.prog) w 22 9 5 ⟨B, 0, none⟩ cap (s.data.toList.map lowU) Tryz.underlying22 Tryz.underlying5 Tryz.underlying9 (fun j hj => by
  have hj' : j < s.size := by simpa using hj
  rw [Addr.add_mid, Nat.zero_add, h.1 j hj', if_pos hj']
  simp only [List.getElem_map, Array.getElem_toList, lowU_toNat]
  rfl)
 rwa [show (s.data.toList.map lowU).length = s.size by simp] at this
set_option maxRecDepth 100000 in
theorem lower_any (s : ByteArray) (w : World) (hs : s.size <= 9223372036854775807) :
  Calls Tryz.prog 113 #[.string s] w fun e w' => e = .returned (.string (lowS s)) /\ Below w.heap.size w w' := by
 have hconv := run_bytes_of_string (P := Tryz.prog) w 9 22 5 s Tryz.underlying9 Tryz.underlying22 Tryz.underlying5
 have hC : ∀ j (hj : j < s.size), (bytesRow s (grownCap w s.size 0 5))[j]? = some (.int .u8 (s[j].toNat : Int)) := fun j hj => bytesRow_at s _ j hj
 have hn : s.size <= (bytesRow s (grownCap w s.size 0 5)).size := by unfold bytesRow; simp
 generalize bytesRow s (grownCap w s.size 0 5) = C at hconv hC hn
 generalize grownCap w s.size 0 5 = cap at hconv
 have hst := Lib.hid (LowSt.start (t := 5) (rfl : w.heap.size = _) hC hn)
 clear hC hn
 go_enter Tryz.func113, Tryz.ntmps113
 go_wp2
 have hb : Below w.heap.size w (w.alloc (.cells C 5 (C.size, C.size + 1))).drew := ((Below.refl _ _).alloc (Nat.le_refl _) _).drew
 clear hconv
 have hl := hst.out
 clear hst
 generalize (w.alloc (.cells C 5 (C.size, C.size + 1))).drew = w0 at hl hb ⊢
 go_loopw [9] (fun i wr => ∃ k : Nat, k <= s.size /\ i = .int .i64 k /\ LowSt s w.heap.size k wr /\ Below w.heap.size w wr) (fun i _ => s.size - (intOf i).toNat)
 case atStart => exact ⟨0, Nat.zero_le _, rfl, hl, hb⟩
 case round =>
  obtain ⟨k, hk, rfl, hst, hbel⟩ := hrel
  have Hst := Lib.hid hst
  by_cases hlt : k < s.size
  ·have hc := hst.1 k hlt
   have hf := hst.2 k hlt
   simp only [Nat.lt_irrefl, if_false] at hc
   clear hst
   go_wp2
   ·go_roundw
    case rel => exact ⟨k + 1, by omega, by go_num, by rw [<- lowI_yes (by assumption) (by assumption)]; exact Hst.out.put hlt, hbel.setCell (Nat.le_refl _) _⟩
    case measure => simp [intOf]; omega
   ·go_roundw
    case rel => exact ⟨k + 1, by omega, by go_num, Hst.out.stay hlt (lowI_no (by omega)), hbel⟩
    case measure => simp [intOf]; omega
   ·go_roundw
    case rel => exact ⟨k + 1, by omega, by go_num, Hst.out.stay hlt (lowI_no (by omega)), hbel⟩
    case measure => simp [intOf]; omega
  ·obtain rfl : k = s.size := by omega
   have hback := hst.back (cap := cap)
   clear hst
   go_wp2
   go_ret
   exact ⟨rfl, hbel⟩
end Go.Proofs.YtpplgdnklpchkaaGreatDoor
namespace Go.Proofs.YtpplgdnklpchkaaGreatDoor
set_option linter.all false
def blank (b : UInt8) : Bool := b == 32 || b == 9
def trimL (l : List UInt8) : List UInt8 := ((l.dropWhile blank).reverse.dropWhile blank).reverse
theorem drop_all {l : List UInt8} (h : ∀ b ∈ l, blank b = true) (m : List UInt8) : (l ++ m).dropWhile blank = m.dropWhile blank := by
 induction l with
 | nil => rfl
 | cons a l ih =>
  rw [List.cons_append, List.dropWhile_cons, if_pos (h a (by simp))]
  exact ih fun b hb => h b (by simp [hb])
theorem drop_head {m : List UInt8} (h : m = [] \/ ∃ a r, m = a :: r /\ blank a = false) : m.dropWhile blank = m := by
 rcases h with rfl | ⟨a, r, rfl, h⟩
 ·rfl
 ·rw [List.dropWhile_cons, h]; rfl
theorem trim_all {l : List UInt8} (h : ∀ b ∈ l, blank b = true) : trimL l = [] := by
 have := drop_all h []
 simp at this
 simp [trimL, this]
theorem trim_of {p m q : List UInt8} (hp : ∀ b ∈ p, blank b = true) (hq : ∀ b ∈ q, blank b = true) (hm : m = [] \/ ∃ a r, m = a :: r /\ blank a = false) (hl : m = [] \/ ∃ r a, m = r ++ [a] /\ blank a = false) : trimL (p ++ m ++ q) = m := by
 by_cases hm0 : m = []
 ·subst hm0
  apply trim_all
  intro b hb
  simp at hb
  rcases hb with hb | hb
  ·exact hp b hb
  ·exact hq b hb
 ·unfold trimL
  rw [List.append_assoc, drop_all hp]
  have e1 : (m ++ q).dropWhile blank = m ++ q := drop_head (by
   rcases hm with h | ⟨a, r, rfl, h⟩
   ·exact absurd h hm0
   ·exact .inr ⟨a, r ++ q, rfl, h⟩)
  rw [e1, List.reverse_append, drop_all (fun b hb => hq b (by simpa using hb)), drop_head, List.reverse_reverse]
  rcases hl with h | ⟨r, a, rfl, h⟩
  ·exact absurd h hm0
  ·exact .inr ⟨a, r.reverse, by simp, h⟩
theorem dropWhile_split (l : List UInt8) : ∃ p, l = p ++ l.dropWhile blank /\ ∀ b ∈ p, blank b = true := by
 refine ⟨l.takeWhile blank, (List.takeWhile_append_dropWhile).symm, ?_⟩
 intro b hb
 induction l with
 | nil => simp at hb
 | cons a l ih =>
  rw [List.takeWhile_cons] at hb
  by_cases ha : blank a = true
  ·rw [if_pos ha] at hb
   rcases List.mem_cons.1 hb with rfl | hb
   ·exact ha
   ·exact ih hb
  ·rw [if_neg ha] at hb; simp at hb
theorem dropWhile_head (l : List UInt8) : l.dropWhile blank = [] \/ ∃ a r, l.dropWhile blank = a :: r /\ blank a = false := by
 induction l with
 | nil => exact .inl rfl
 | cons a l ih =>
  rw [List.dropWhile_cons]
  by_cases ha : blank a = true
  ·rw [if_pos ha]; exact ih
  ·rw [if_neg ha]; exact .inr ⟨a, l, rfl, by simpa using ha⟩
theorem trim_parts (l : List UInt8) : ∃ p q, l = p ++ trimL l ++ q /\ (∀ b ∈ p, blank b = true) /\ (∀ b ∈ q, blank b = true) /\ (trimL l = [] \/ ∃ a r, trimL l = a :: r /\ blank a = false) /\ (trimL l = [] \/ ∃ r a, trimL l = r ++ [a] /\ blank a = false) := by
 obtain ⟨p, hp, hpb⟩ := dropWhile_split l
 obtain ⟨q, hq, hqb⟩ := dropWhile_split (l.dropWhile blank).reverse
 have e : l.dropWhile blank = trimL l ++ q.reverse := by
  have := congrArg List.reverse hq
  rwa [List.reverse_reverse, List.reverse_append] at this
 refine ⟨p, q.reverse, by rw [List.append_assoc, <- e]; exact hp, hpb, fun b hb => hqb b (by simpa using hb), ?_, ?_⟩
 ·by_cases h0 : trimL l = []
  ·exact .inl h0
  ·right
   rcases dropWhile_head l with h | ⟨a, r, h, hb⟩
   ·rw [e] at h; simp at h; exact absurd h.1 h0
   ·rw [e] at h
    cases ht : trimL l with
    | nil => exact absurd ht h0
    | cons x r' => rw [ht] at h; simp at h; exact ⟨x, r', rfl, by rw [h.1]; exact hb⟩
 ·rcases dropWhile_head (l.dropWhile blank).reverse with h | ⟨a, r, h, hb⟩
  ·left; unfold trimL; rw [h]; rfl
  ·right; exact ⟨r.reverse, a, by unfold trimL; rw [h]; simp, hb⟩
theorem trim_trim (l : List UInt8) : trimL (trimL l) = trimL l := by
 obtain ⟨p, q, _, _, _, h1, h2⟩ := trim_parts l
 have := trim_of (p := []) (q := []) (m := trimL l) (by simp) (by simp) h1 h2
 simpa using this
theorem trim_len (l : List UInt8) : (trimL l).length <= l.length := by
 obtain ⟨p, q, h, _⟩ := trim_parts l
 have := congrArg List.length h
 simp at this; omega
theorem trim_more {p q : List UInt8} (hp : ∀ b ∈ p, blank b = true) (hq : ∀ b ∈ q, blank b = true) (l : List UInt8) : trimL (p ++ l ++ q) = trimL l := by
 obtain ⟨p', q', h, hp', hq', h1, h2⟩ := trim_parts l
 have e : p ++ l ++ q = (p ++ p') ++ trimL l ++ (q' ++ q) := by
  conv => lhs; rw [h]
  simp
 rw [e]
 refine trim_of ?_ ?_ h1 h2
 ·intro b hb; rcases List.mem_append.1 hb with hb | hb
  ·exact hp b hb
  ·exact hp' b hb
 ·intro b hb; rcases List.mem_append.1 hb with hb | hb
  ·exact hq' b hb
  ·exact hq b hb
theorem getElem_toList (s : ByteArray) (k : Nat) (h : k < s.size) : s.data.toList[k]'(by simpa using h) = s[k] := rfl
def Trimmed (s : ByteArray) (a b : Nat) : Prop :=
 a <= b /\ b <= s.size /\ (∀ j (h : j < s.size), j < a -> blank s[j] = true) /\ (∀ j (h : j < s.size), b <= j -> blank s[j] = true) /\ (a = b \/ (∃ h : a < s.size, blank s[a] = false) /\ ∃ h : b - 1 < s.size, blank s[b - 1] = false)
def trimS (s : ByteArray) : ByteArray := ⟨(trimL s.data.toList).toArray⟩
theorem Trimmed.text {s : ByteArray} {a b : Nat} (h : Trimmed s a b) : s.extract a b = trimS s := by
 obtain ⟨h1, h2, h3, h4, h5⟩ := h
 have hlen : s.data.toList.length = s.size := by simp
 have e : s.data.toList = s.data.toList.take a ++ (s.data.toList.drop a).take (b - a) ++ s.data.toList.drop b := by
  have e1 : (s.data.toList.drop a).drop (b - a) = s.data.toList.drop b := by rw [List.drop_drop]; congr 1; omega
  rw [List.append_assoc, <- e1, List.take_append_drop, List.take_append_drop]
 have key : trimL s.data.toList = (s.data.toList.drop a).take (b - a) := by
  conv => lhs; rw [e]
  apply trim_of
  ·intro x hx
   obtain ⟨j, hj, rfl⟩ := List.getElem_of_mem hx
   simp at hj
   rw [List.getElem_take]
   exact h3 j (by omega) (by omega)
  ·intro x hx
   obtain ⟨j, hj, rfl⟩ := List.getElem_of_mem hx
   simp at hj
   rw [List.getElem_drop]
   exact h4 (b + j) (by omega) (by omega)
  ·rcases h5 with h5 | ⟨⟨h6, h7⟩, _⟩
   ·left; subst h5; simp
   ·by_cases hab : a = b
    ·left; subst hab; simp
    right
    have : (s.data.toList.drop a).take (b - a) = s[a] :: (s.data.toList.drop (a + 1)).take (b - a - 1) := by
     rw [List.drop_eq_getElem_cons (by simpa using h6)]
     obtain ⟨n, hn⟩ : ∃ n, b - a = n + 1 := ⟨b - a - 1, by omega⟩
     rw [hn, List.take_succ_cons]
     rfl
    exact ⟨_, _, this, h7⟩
  ·rcases h5 with h5 | ⟨_, h6, h7⟩
   ·left; subst h5; simp
   ·by_cases hab : a = b
    ·left; subst hab; simp
    right
    have : (s.data.toList.drop a).take (b - a) = (s.data.toList.drop a).take (b - a - 1) ++ [s[b - 1]] := by
     obtain ⟨n, hn⟩ : ∃ n, b - a = n + 1 := ⟨b - a - 1, by omega⟩
     have hl : n < (s.data.toList.drop a).length := by simp; omega
     rw [hn, List.take_succ_eq_append_getElem hl]
     simp only [Nat.add_sub_cancel, List.getElem_drop]
     congr 2
     show s.data.toList[a + n] = s.data.toList[b - 1]
     congr 1; omega
    exact ⟨_, _, this, h7⟩
 unfold trimS
 rw [key]
 apply ByteArray.ext
 apply Array.toList_inj.1
 simp
end Go.Proofs.YtpplgdnklpchkaaGreatDoor
namespace Go.Proofs.YtpplgdnklpchkaaGreatDoor
set_option linter.all false
open Go.RowKit
theorem blank_iff (b : UInt8) : blank b = true ↔ (b.toNat : Int) = 32 \/ (b.toNat : Int) = 9 := by
 unfold blank
 rw [Bool.or_eq_true, beq_iff_eq, beq_iff_eq]
 constructor
 ·rintro (h | h)
  ·subst h; left; rfl
  ·subst h; right; rfl
 ·rintro (h | h)
  ·left; apply UInt8.toNat.inj; show b.toNat = 32; omega
  ·right; apply UInt8.toNat.inj; show b.toNat = 9; omega
theorem blank_no {b : UInt8} (h : ¬ (b.toNat : Int) = 32) (h' : ¬ (b.toNat : Int) = 9) : blank b = false := by
 rw [Bool.eq_false_iff]; intro hb; rcases (blank_iff b).1 hb with hb | hb
 ·exact h hb
 ·exact h' hb
def TrimSt (s : ByteArray) (k a b : Nat) : Prop :=
 (a = 0 /\ b = 0 /\ ∀ j (h : j < s.size), j < k -> blank s[j] = true) \/
 (a < b /\ b <= k /\ (∀ j (h : j < s.size), j < a -> blank s[j] = true) /\ (∃ h : a < s.size, blank s[a] = false) /\ (∃ h : b - 1 < s.size, blank s[b - 1] = false) /\ ∀ j (h : j < s.size), b <= j -> j < k -> blank s[j] = true)
theorem TrimSt.skip {s : ByteArray} {k a b : Nat} (h : TrimSt s k a b) (hk : k < s.size) (hb : blank s[k] = true) : TrimSt s (k + 1) a b := by
 rcases h with ⟨h1, h2, h3⟩ | ⟨h1, h2, h3, h4, h5, h6⟩
 ·exact .inl ⟨h1, h2, fun j hj hjk => by
   by_cases hj2 : j = k
   ·subst hj2; exact hb
   ·exact h3 j hj (by omega)⟩
 ·exact .inr ⟨h1, by omega, h3, h4, h5, fun j hj hbj hjk => by
   by_cases hj2 : j = k
   ·subst hj2; exact hb
   ·exact h6 j hj hbj (by omega)⟩
theorem TrimSt.first {s : ByteArray} {k a b : Nat} (h : TrimSt s k a b) (hk : k < s.size) (hb : blank s[k] = false) (h0 : b = 0) : TrimSt s (k + 1) k (k + 1) := by
 rcases h with ⟨h1, h2, h3⟩ | ⟨h1, h2, h3, h4, h5, h6⟩
 ·exact .inr ⟨by omega, by omega, fun j hj hjk => h3 j hj hjk, ⟨hk, hb⟩, ⟨by omega, by simpa using hb⟩, fun j hj h7 h8 => by omega⟩
 ·omega
theorem TrimSt.more {s : ByteArray} {k a b : Nat} (h : TrimSt s k a b) (hk : k < s.size) (hb : blank s[k] = false) (h0 : ¬ b = 0) : TrimSt s (k + 1) a (k + 1) := by
 rcases h with ⟨h1, h2, h3⟩ | ⟨h1, h2, h3, h4, h5, h6⟩
 ·exact absurd h2 h0
 ·exact .inr ⟨by omega, by omega, h3, h4, ⟨by omega, by simpa using hb⟩, fun j hj h7 h8 => by omega⟩
theorem TrimSt.text {s : ByteArray} {a b : Nat} (h : TrimSt s s.size a b) : s.extract a b = trimS s := by
 apply Trimmed.text
 rcases h with ⟨rfl, rfl, h3⟩ | ⟨h1, h2, h3, h4, h5, h6⟩
 ·exact ⟨by omega, by omega, fun j h hj => by omega, fun j h _ => h3 j h h, .inl rfl⟩
 ·exact ⟨by omega, h2, h3, fun j h hj => h6 j h hj h, .inr ⟨h4, h5⟩⟩
theorem TrimSt.le {s : ByteArray} {k a b : Nat} (h : TrimSt s k a b) : a <= b /\ b <= k := by
 rcases h with ⟨h1, h2, h3⟩ | ⟨h1, h2, _⟩ <;> omega
def SaysText (t : ByteArray) (w : World) (e : Ending) (w' : World) : Prop := e = .returned (.string t) /\ w = w'
theorem saysText_of {a b : ByteArray} (w : World) (h : a = b) : SaysText b w (.returned (.string a)) w := ⟨by rw [h], rfl⟩
set_option maxRecDepth 100000 in
theorem trim_any (s : ByteArray) (w : World) (hs : s.size <= 9223372036854775807) :
  Calls Tryz.prog 114 #[.string s] w (SaysText (trimS s) w) := by
 go_enter Tryz.func114, Tryz.ntmps114
 go_wp2
 go_loop [3, 4, 8] (fun x y i => ∃ k a b : Nat, k <= s.size /\ i = .int .i64 k /\ x = .int .i64 a /\ y = .int .i64 b /\ TrimSt s k a b) (fun _ _ i => s.size - (intOf i).toNat)
 case atStart => exact ⟨0, 0, 0, Nat.zero_le _, rfl, rfl, rfl, .inl ⟨rfl, rfl, fun j h hj => by omega⟩⟩
 case round =>
  obtain ⟨k, a, b, hk, rfl, rfl, rfl, ht⟩ := hrel
  have Ht := Lib.hid ht
  have hab := ht.le
  clear ht
  by_cases hlt : k < s.size
  ·by_cases h32 : (s[k].toNat : Int) = 32
   ·have hb := (blank_iff s[k]).2 (.inl h32)
    have Hb := Lib.hid hb
    clear hb
    go_wp2
    go_round
    case rel => exact ⟨k + 1, a, b, by omega, by go_num, rfl, rfl, Ht.out.skip hlt Hb.out⟩
    case measure => simp [intOf]; omega
   ·by_cases h9 : (s[k].toNat : Int) = 9
    ·have Hb := Lib.hid ((blank_iff s[k]).2 (.inr h9))
     go_wp2
     go_round
     case rel => exact ⟨k + 1, a, b, by omega, by go_num, rfl, rfl, Ht.out.skip hlt Hb.out⟩
     case measure => simp [intOf]; omega
    ·have Hb := Lib.hid (blank_no h32 h9)
     have b32 : ((s[k].toNat : Int) == 32) = false := by simpa using h32
     have b9 : ((s[k].toNat : Int) == 9) = false := by simpa using h9
     by_cases hb0 : b = 0
     ·have Ht2 := Lib.hid (Ht.out.first hlt Hb.out hb0)
      subst hb0
      go_wp2
      go_round
      case rel => exact ⟨k + 1, k, k + 1, by omega, by go_num, rfl, by go_num, Ht2.out⟩
      case measure => simp [intOf]; omega
     ·go_wp2
      go_round
      case rel => exact ⟨k + 1, a, k + 1, by omega, by go_num, rfl, by go_num, Ht.out.more hlt Hb.out hb0⟩
      case measure => simp [intOf]; omega
  ·obtain rfl : k = s.size := by omega
   go_wp2
   go_ret
   exact saysText_of w Ht.out.text
def LeadSt (s : ByteArray) (a : Nat) : Prop := ∀ j (h : j < s.size), j < a -> blank s[j] = true
def TailSt (s : ByteArray) (b : Nat) : Prop := ∀ j (h : j < s.size), b <= j -> blank s[j] = true
theorem LeadSt.up {s : ByteArray} {a : Nat} (h : LeadSt s a) (hk : a < s.size) (hb : blank s[a] = true) : LeadSt s (a + 1) := fun j hj hja => by
 by_cases e : j = a
 ·subst e; exact hb
 ·exact h j hj (by omega)
theorem TailSt.down {s : ByteArray} {b : Nat} (h : TailSt s b) (hi : b - 1 < s.size) (hb : blank s[b - 1] = true) : TailSt s (b - 1) := fun j hj hja => by
 by_cases e : j = b - 1
 ·subst e; exact hb
 ·exact h j hj (by omega)
theorem ref_text {s : ByteArray} {a b : Nat} (hab : a <= b) (hbs : b <= s.size) (hl : LeadSt s a) (ht : TailSt s b) (hx : a = s.size \/ ∃ h : a < s.size, blank s[a] = false) (hy : a = b \/ ∃ h : b - 1 < s.size, blank s[b - 1] = false) : s.extract a b = trimS s := by
 apply Trimmed.text
 refine ⟨hab, hbs, hl, ht, ?_⟩
 rcases hy with hy | hy
 ·exact .inl hy
 ·rcases hx with hx | hx
  ·left; omega
  ·exact .inr ⟨hx, hy⟩
set_option maxRecDepth 100000 in
theorem refTrim_any (s : ByteArray) (w : World) (hs : s.size <= 9223372036854775807) :
  Calls Tryz.prog 51 #[.string s] w (SaysText (trimS s) w) := by
 go_enter Tryz.func51, Tryz.ntmps51
 go_wp2
 go_loop [3] (fun x => ∃ a : Nat, a <= s.size /\ x = .int .i64 a /\ LeadSt s a) (fun i => s.size - (intOf i).toNat)
 case atStart => exact ⟨0, Nat.zero_le _, rfl, fun j h hj => by omega⟩
 case round =>
  obtain ⟨a, ha, rfl, hl⟩ := hrel
  have Hl := Lib.hid hl
  clear hl
  by_cases hlt : a < s.size
  ·by_cases h32 : (s[a].toNat : Int) = 32
   ·have Hb := Lib.hid ((blank_iff s[a]).2 (.inl h32))
    go_wp2
    go_round
    case rel => exact ⟨a + 1, by omega, by go_num, Hl.out.up hlt Hb.out⟩
    case measure => simp [intOf]; omega
   ·by_cases h9 : (s[a].toNat : Int) = 9
    ·have Hb := Lib.hid ((blank_iff s[a]).2 (.inr h9))
     go_wp2
     go_round
     case rel => exact ⟨a + 1, by omega, by go_num, Hl.out.up hlt Hb.out⟩
     case measure => simp [intOf]; omega
    ·have b32 : ((s[a].toNat : Int) == 32) = false := by simpa using h32
     have b9 : ((s[a].toNat : Int) == 9) = false := by simpa using h9
     have Hx : Hid (a = s.size \/ ∃ h : a < s.size, blank s[a] = false) := Lib.hid (.inr ⟨hlt, blank_no h32 h9⟩)
     go_wp2
     go_loop [4] (fun y => ∃ b : Nat, a <= b /\ b <= s.size /\ y = .int .i64 b /\ TailSt s b) (fun y => (intOf y).toNat)
     case atStart => exact ⟨s.size, by omega, Nat.le_refl _, rfl, fun j h hj => by omega⟩
     case round =>
      obtain ⟨b, hab, hbs, rfl, htl⟩ := hrel
      have Ht := Lib.hid htl
      clear htl
      by_cases hlt2 : a < b
      ·have hi : b - 1 < s.size := by omega
       by_cases h32 : (s[b - 1].toNat : Int) = 32
       ·have Hb := Lib.hid ((blank_iff s[b - 1]).2 (.inl h32))
        go_wp2
        go_round
        case rel => exact ⟨b - 1, by omega, by omega, by go_num, Ht.out.down hi Hb.out⟩
        case measure => simp [intOf]; omega
       ·by_cases h9 : (s[b - 1].toNat : Int) = 9
        ·have Hb := Lib.hid ((blank_iff s[b - 1]).2 (.inr h9))
         go_wp2
         go_round
         case rel => exact ⟨b - 1, by omega, by omega, by go_num, Ht.out.down hi Hb.out⟩
         case measure => simp [intOf]; omega
        ·have Hb := Lib.hid (blank_no h32 h9)
         have c32 : ((s[b - 1].toNat : Int) == 32) = false := by simpa using h32
         have c9 : ((s[b - 1].toNat : Int) == 9) = false := by simpa using h9
         go_wp2
         go_ret
         exact saysText_of w (ref_text hab hbs Hl.out Ht.out Hx.out (.inr ⟨hi, Hb.out⟩))
      ·go_wp2
       go_ret
       exact saysText_of w (ref_text hab hbs Hl.out Ht.out Hx.out (.inl (by omega)))
  ·obtain rfl : a = s.size := by omega
   go_wp2
   go_loop [4] (fun y => y = .int .i64 s.size) (fun y => (intOf y).toNat)
   case atStart => rfl
   case round =>
    obtain rfl := hrel
    go_wp2
    go_ret
    exact saysText_of w ((by simp : ByteArray.empty = s.extract s.size s.size).trans (ref_text (Nat.le_refl _) (Nat.le_refl _) Hl.out (fun j hj hb => by omega) (.inl rfl) (.inl rfl)))
end Go.Proofs.YtpplgdnklpchkaaGreatDoor
namespace Go.Proofs.YtpplgdnklpchkaaGreatDoor
set_option linter.all false
open Go.RowKit
theorem Tryz.infoByte : (Tryz.prog.info? 5).map (fun i => (i.zero, i.size, i.bytes)) = some (some (.int .u8 0), 1, 1) := by kernel_rfl
def byteVals (l : List UInt8) : List Value := l.map fun b => .int .u8 (b.toNat : Int)
def OwnBytes (w : World) (base : Nat) (v : Value) (l : List UInt8) : Prop := w.ownsRow base 5 1 v l.length (byteVals l)
theorem OwnBytes.nil (w : World) (base : Nat) : OwnBytes w base (.slice none 0 0) [] := World.ownsRow_nil _ _ _ _
theorem bytes_none (w : World) (src dst e : TypeId) (cap : Nat) {P : Program} (hs : P.underlying src = some (.slice e)) (he : P.underlying e = some (.int .u8)) (hd : P.underlying dst = some .string) :
  (convert src dst (.slice none 0 cap)).run P w = .ok (.string ⟨#[]⟩) w := by
 rw [run_convert_bytes_string w src dst e none 0 cap hs he hd]
 unfold Conv.bytesToString
 simp [Sem.run_pure]
 rfl
theorem OwnBytes.back {w : World} {base : Nat} {v : Value} {l : List UInt8} (h : OwnBytes w base v l) : (convert 22 9 v).run Tryz.prog w = .ok (.string ⟨l.toArray⟩) w := by
 have h0 : w.ownsRow base 5 1 v l.length (l.map fun b => .int .u8 (b.toNat : Int)) := h
 rcases h0.2 with ⟨rfl, hn⟩ | ⟨g, cap, cur, rfl, _⟩
 ·have : l = [] := List.length_eq_zero_iff.1 hn
  subst this
  exact bytes_none w 22 9 5 0 Tryz.underlying22 Tryz.underlying5 Tryz.underlying9
 ·exact run_convert_bytes_back w 22 9 5 ⟨g, 0, none⟩ cap l Tryz.underlying22 Tryz.underlying5 Tryz.underlying9 fun j hj =>
   h0.cells (g := g) rfl j _ (by simp [List.getElem?_eq_getElem hj])
theorem OwnBytes.more {w : World} {base : Nat} {v : Value} {l : List UInt8} {c : UInt8} {z : Int} (h : w.ownsRow base 5 1 v (l.length + 1) (byteVals l ++ [.int .u8 z])) (hz : z = (c.toNat : Int)) : OwnBytes w base v (l ++ [c]) := by
 subst hz
 unfold OwnBytes byteVals
 rw [List.length_append, List.map_append]
 exact h
theorem below_append {B : Nat} {w wr w1 : World} {v : Value} {l : List UInt8} {o : Obj} (hb : Below B w wr) (hB : B <= wr.heap.size) (h : OwnBytes wr B v l) (hg : (wr.alloc o).grownBy w1 v.ownBlock) : Below B w w1 :=
 (hb.alloc hB o).grown hg (by simp; omega) fun k hk => (World.ownsRow.lt h k hk).1
theorem OwnBytes.shape {w : World} {base : Nat} {v : Value} {l : List UInt8} (h : OwnBytes w base v l) : v = .slice none 0 0 \/ ∃ g cap, v = .slice (some ⟨g, 0, none⟩) l.length cap := by
 have h0 : w.ownsRow base 5 1 v l.length (byteVals l) := h
 rcases h0.2 with ⟨rfl, hn⟩ | ⟨g, cap, cur, rfl, _⟩
 ·exact .inl rfl
 ·exact .inr ⟨g, cap, rfl⟩
theorem wpList_append_byteL {ops : Array Oper} {rest : List Oper} {o : Oper} {a : Act} {Q : Exit -> Act -> World -> Prop} (hgd : o.guard = none) (s x : Operand)
  (ho : o.op = .call { callee := .builtin .append, args := #[s, x], argTypes := #[22, 22] })
  (B : Nat) (w wr : World) (v : Value) (l : List UInt8) (c : UInt8) (z : Int) (hs : a.eval s = v) (hown : OwnBytes wr B v l) (hx : a.eval x = .slice (some ⟨wr.heap.size, 0, none⟩) 1 1) (hz : z = (c.toNat : Int))
  (hl : l.length <= 140737488351232) (hB : B <= wr.heap.size) (hbel : Below B w wr)
  (h : ∀ v' w', OwnBytes w' B v' (l ++ [c]) -> Below B w w' -> wpList Tryz.prog ops Q rest (a.put o.dst v') w') : wpList Tryz.prog ops Q (o :: rest) a (wr.alloc (.cells #[.int .u8 z] 5)) := by
 obtain ⟨i0, hi, hz0, hz1, hz2⟩ := info_parts Tryz.infoByte
 have h0 : wr.ownsRow B 5 1 v l.length (byteVals l) := hown
 refine wpList_append_own (P := Tryz.prog) (wr.alloc (.cells #[.int .u8 z] 5)) hgd s x 22 ho B 5 i0 (.int .u8 0) 1 1 Tryz.underlying22 hi hz0 hz1 hz2 rfl (by decide) v l.length _ hs (World.ownsRow.alloc h0 _) ⟨wr.heap.size, 0, none⟩ 1 1 [.int .u8 z] hx rfl ?_ ?_ ?_ ?_ ?_ ?_
 ·intro j u hj
  match j, hj with
  | 0, hj =>
   simp at hj; subst hj
   show (wr.alloc _).cell? _ = _
   simp [Addr.add, World.cell?_alloc_mark]
 ·intro u hu; simp at hu; subst hu; rfl
 ·unfold maxLen; omega
 ·omega
 ·simp; omega
 ·intro v' w' h1 h2 _
  exact h v' w' (OwnBytes.more h1 hz) (below_append hbel hB hown h2)
theorem ret_text {a b : ByteArray} (h : a = b) : Ending.returned (.string a) = .returned (.string b) := by rw [h]
set_option maxRecDepth 100000 in
theorem refLower_huge (s : ByteArray) (w : World) (hs : s.size <= 140737488351232) :
  Calls Tryz.prog 50 #[.string s] w fun e w' => e = .returned (.string (lowS s)) /\ Below w.heap.size w w' := by
 go_enter Tryz.func50, Tryz.ntmps50
 go_wp2
 go_loopw [3, 4] (fun v i wr => ∃ (k : Nat) (l : List UInt8), k <= s.size /\ i = .int .i64 k /\ (s.data.toList.take k).map lowU = l /\ OwnBytes wr w.heap.size v l /\ Below w.heap.size w wr) (fun _ i _ => s.size - (intOf i).toNat)
 case atStart => exact ⟨0, [], Nat.zero_le _, rfl, rfl, OwnBytes.nil _ _, Below.refl _ _⟩
 case round =>
  obtain ⟨k, l, hk, rfl, hl, hown, hbel⟩ := hrel
  have hsz := hbel.size
  have hle : l.length <= 140737488351232 := by rw [<- hl]; simp; omega
  have Hl := Lib.hid hl
  clear hl
  by_cases hlt : k < s.size
  ·have Htake := Lib.hid (take_snoc s k hlt)
   by_cases hlow : 65 <= (s[k].toNat : Int) /\ (s[k].toNat : Int) <= 90
   ·obtain ⟨hl1, hl2⟩ := hlow
    have Hz := Lib.hid (show (s[k].toNat : Int) + 32 = ((lowU s[k]).toNat : Int) by rw [lowU_toNat, lowI_yes hl1 hl2])
    go_wp2_with (at_builtin; refine wpList_append_byteL rfl _ _ rfl w.heap.size w wr u3 l (lowU s[k]) _ rfl hown rfl Hz.out hle hsz hbel ?_)
    intro v' w1 hown' hbel'
    clear hown hbel
    have Hown := Lib.hid hown'
    clear hown'
    go_wp2
    go_roundw
    case rel => exact ⟨k + 1, _, by omega, by go_num, by rw [Htake.out, List.map_append, Hl.out]; rfl, Hown.out, hbel'⟩
    case measure => simp [intOf]; omega
   ·have Hz := Lib.hid (show (s[k].toNat : Int) = ((lowU s[k]).toNat : Int) by rw [lowU_toNat, lowI_no hlow])
    by_cases hl1 : 65 <= (s[k].toNat : Int)
    all_goals
     have hl2 : 90 < (s[k].toNat : Int) \/ ¬ 65 <= (s[k].toNat : Int) := by omega
     clear hlow
     first
     | (have hl3 : 90 < (s[k].toNat : Int) := by omega)
     | skip
     clear hl2
     go_wp2_with (at_builtin; refine wpList_append_byteL rfl _ _ rfl w.heap.size w wr u3 l (lowU s[k]) _ rfl hown rfl Hz.out hle hsz hbel ?_)
     intro v' w1 hown' hbel'
     clear hown hbel
     have Hown := Lib.hid hown'
     clear hown'
     go_wp2
     go_roundw
     case rel => exact ⟨k + 1, _, by omega, by go_num, by rw [Htake.out, List.map_append, Hl.out]; rfl, Hown.out, hbel'⟩
     case measure => simp [intOf]; omega
  ·obtain rfl : k = s.size := by omega
   have hback := hown.back
   rcases hown.shape with rfl | ⟨g, cap, rfl⟩
   all_goals
    clear hown
    go_wp2
    go_ret
    exact ⟨ret_text (by rw [<- Hl.out]; unfold lowS; rw [List.take_of_length_le (by simp)]), hbel⟩
theorem refLower_big (s : ByteArray) (w : World) (hs : s.size <= 4000000) :
  Calls Tryz.prog 50 #[.string s] w fun e w' => e = .returned (.string (lowS s)) /\ Below w.heap.size w w' := refLower_huge s w (by omega)
theorem refLower_any (s : ByteArray) (w : World) (hs : s.size <= 1000000) :
  Calls Tryz.prog 50 #[.string s] w fun e w' => e = .returned (.string (lowS s)) /\ Below w.heap.size w w' := refLower_big s w (by omega)
end Go.Proofs.YtpplgdnklpchkaaGreatDoor
namespace Go.Proofs.YtpplgdnklpchkaaGreatDoor
set_option linter.all false
open Go.RowKit
theorem byte_is {c : UInt8} {n : Nat} (hn : n < 256) (h : (c.toNat : Int) = n) : c = UInt8.ofNat n := by
 apply UInt8.toNat_inj.1; rw [UInt8.toNat_ofNat']; omega
theorem byte_not {c : UInt8} {n : Nat} (hn : n < 256) (h : ¬ (c.toNat : Int) = n) : c ≠ UInt8.ofNat n := by
 rintro rfl; apply h; rw [UInt8.toNat_ofNat']; omega
theorem OwnBytes.past {w : World} {B : Nat} {v : Value} {l : List UInt8} (h : OwnBytes w B v l) (o : Obj) : OwnBytes (w.alloc o).drew B v l := World.ownsRow.alloc h o
theorem OwnBytes.moreAll {w : World} {base : Nat} {v : Value} {l cs : List UInt8} (h : w.ownsRow base 5 1 v (l.length + cs.length) (byteVals l ++ byteVals cs)) : OwnBytes w base v (l ++ cs) := by
 unfold OwnBytes
 rw [List.length_append]
 unfold byteVals at *
 rw [List.map_append]
 exact h
theorem own_below {w w' : World} {base : Nat} {e : TypeId} {size : Nat} {v : Value} {n : Nat} {xs : List Value} (h : w.ownsRow base e size v n xs) (hb : Below w.heap.size w w') : w'.ownsRow base e size v n xs :=
 h.kept (row := none) ⟨hb.os, hb.tape, hb.output, hb.size, fun k hk _ => hb.block k hk⟩ (by cases v.ownBlock <;> simp)
theorem text_eq {a : ByteArray} {l : List UInt8} (h : a.data.toList = l) : a = ⟨l.toArray⟩ := by
 subst h; apply ByteArray.ext; simp
theorem text_inj {a b : List UInt8} : (⟨a.toArray⟩ : ByteArray) = ⟨b.toArray⟩ ↔ a = b :=
 ⟨fun h => by have := congrArg (fun x : ByteArray => x.data.toList) h; simpa using this, fun h => by rw [h]⟩
theorem text_size (l : List UInt8) : (⟨l.toArray⟩ : ByteArray).size = l.length := by show l.toArray.size = _; simp
theorem text_cat (a b : ByteArray) : a ++ b = ⟨(a.data.toList ++ b.data.toList).toArray⟩ := by
 apply ByteArray.ext; apply Array.toList_inj.1; simp
theorem bytesEq_bool (a b : ByteArray) : (a.toList == b.toList) = decide (a = b) := by
 rw [Bool.eq_iff_iff]
 simp only [beq_iff_eq, decide_eq_true_eq]
 rw [ByteArray.toList_eq, ByteArray.toList_eq]
 constructor
 ·intro h; apply ByteArray.ext; exact Array.toList_inj.1 h
 ·rintro rfl; rfl
theorem bytesEmpty_bool (a : ByteArray) : a.toList.isEmpty = decide (a.size = 0) := by
 rw [ByteArray.toList_eq, Bool.eq_iff_iff, decide_eq_true_eq, List.isEmpty_iff, <- List.length_eq_zero_iff]
 simp
end Go.Proofs.YtpplgdnklpchkaaGreatDoor
namespace Go.Proofs.YtpplgdnklpchkaaGreatDoor
set_option linter.all false
open Go.RowKit
theorem all_token (s : ByteArray) (w : World) (hs : s.size <= 9223372036854775807) : Calls Tryz.prog 120 #[.string s, .func (.func 121) #[] #[]] w (SaysIn (allB tokenB s.data.toList) w) :=
 all_any s _ tokenB w hs (fun x w => by kernel_rfl) (fun z w _ _ => token_any z w)
theorem all_field (s : ByteArray) (w : World) (hs : s.size <= 9223372036854775807) : Calls Tryz.prog 120 #[.string s, .func (.func 135) #[] #[]] w (SaysIn (allB fieldB s.data.toList) w) :=
 all_any s _ fieldB w hs (fun x w => by kernel_rfl) (fun z w _ _ => field_any z w)
def tokS (s : ByteArray) : Bool := decide (0 < s.size) && allB tokenB s.data.toList
theorem saysIn_of {a b : Bool} {w w' : World} (h : a = b) (hb : Below w.heap.size w w') : SaysIn b w (.returned (.bool a)) w' := ⟨by rw [h], hb⟩
set_option maxRecDepth 100000 in
theorem isToken_any (s : ByteArray) (w : World) (hs : s.size <= 9223372036854775807) :
  Calls Tryz.prog 104 #[.string s] w (SaysIn (tokS s) w) := by
 by_cases h : 0 < s.size
 ·have h1 : s.toList.isEmpty = false := by
   rw [ByteArray.toList_eq]
   cases hl : s.data.toList with
   | nil => simp at hl; rw [show s.size = s.data.size from rfl, hl] at h; simp at h
   | cons _ _ => rfl
  have h2 : (!s.toList.isEmpty) = true := by rw [h1]; rfl
  have ht : tokS s = allB tokenB s.data.toList := by simp [tokS, h]
  have Ht := Lib.hid ht
  clear ht
  go_enter Tryz.func104, Tryz.ntmps104
  go_wp2_with fail
  refine (all_token s _ hs).mono ?_
  rintro e w' ⟨rfl, hb⟩
  go_wp2_with fail
  go_ret
  exact saysIn_of Ht.out.symm hb
 ·obtain rfl : s = ByteArray.empty := by
   apply ByteArray.ext
   apply Array.eq_empty_of_size_eq_zero
   show s.size = 0
   omega
  go_enter Tryz.func104, Tryz.ntmps104
  go_wp2_with fail
  go_ret
  exact saysIn_of (by decide) (Below.refl _ _)
end Go.Proofs.YtpplgdnklpchkaaGreatDoor
