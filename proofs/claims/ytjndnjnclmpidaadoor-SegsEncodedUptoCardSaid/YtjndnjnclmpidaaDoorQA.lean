/- Texts of one seat, merged: OctA, OctB, OctC, PctP, SegP, SegQ, SegR, SegS. -/
import Derived.Test.YtjndnjnclmpidaaDoorProg
import Derived.WalkKit
import Derived.Outline
import Derived.Lib.Hide
import Derived.Deep.Light
import Derived.Deep.QuietTactic
import Derived.BigQuiet
import Derived.Lib.DecodeN
import Derived.Lib.SplitLaws
namespace Go.Proofs.YtjndnjnclmpidaaDoor
set_option linter.all false
open Go.RowKit
def Says (b : Bool) (w : World) (e : Ending) (w' : World) : Prop := e = .returned (.bool b) /\ w = w'
theorem says_of {a b : Bool} (w : World) (h : a = b) : Says b w (.returned (.bool a)) w := ⟨by rw [h], rfl⟩
def letterB (z : Int) : Bool := decide (65 <= z /\ z <= 90 \/ 97 <= z /\ z <= 122)
def digitB (z : Int) : Bool := decide (48 <= z /\ z <= 57)
def unresB (z : Int) : Bool := decide (65 <= z /\ z <= 90 \/ 97 <= z /\ z <= 122 \/ 48 <= z /\ z <= 57 \/ z = 45 \/ z = 46 \/ z = 95 \/ z = 126)
def pathB (z : Int) : Bool := unresB z || decide (z = 33 \/ z = 36 \/ z = 38 \/ z = 39 \/ z = 40 \/ z = 41 \/ z = 42 \/ z = 43 \/ z = 44 \/ z = 59 \/ z = 61 \/ z = 58 \/ z = 64)
def hexV (z : Int) : Option Int := if 48 <= z /\ z <= 57 then some (z - 48) else if 97 <= z /\ z <= 102 then some (z - 87) else if 65 <= z /\ z <= 70 then some (z - 55) else none
theorem letter_any (z : Int) (w : World) : Calls Tryd.prog 59 #[.int .u8 z] w (Says (letterB z) w) := by
 go_enter Tryd.func59, Tryd.ntmps59
 go_wp2
 all_goals
  go_ret
  exact says_of w (by rw [Bool.eq_iff_iff]; simp [letterB]; omega)
theorem digit_any (z : Int) (w : World) : Calls Tryd.prog 60 #[.int .u8 z] w (Says (digitB z) w) := by
 go_enter Tryd.func60, Tryd.ntmps60
 go_wp2
 all_goals
  go_ret
  exact says_of w (by rw [Bool.eq_iff_iff]; simp [digitB]; omega)
set_option maxRecDepth 100000 in
theorem unres_any (z : Int) (w : World) : Calls Tryd.prog 47 #[.int .u8 z] w (Says (unresB z) w) := by
 go_enter Tryd.func47, Tryd.ntmps47
 go_wp2_with fail
 refine (letter_any _ _).mono ?_
 rintro e w' ⟨rfl, rfl⟩
 by_cases hl : letterB z = true
 ·go_wp2
  go_ret
  exact says_of w (by rw [Bool.eq_iff_iff]; simp [letterB] at hl; simp [unresB]; omega)
 ·go_wp2_with fail
  refine (digit_any _ _).mono ?_
  rintro e w' ⟨rfl, rfl⟩
  by_cases hd : digitB z = true
  all_goals
   go_wp2
   all_goals
    go_ret
    exact says_of w (by rw [Bool.eq_iff_iff]; go_light; simp [letterB, digitB, unresB] at *; omega)
set_option maxRecDepth 100000 in
theorem path_any (z : Int) (w : World) : Calls Tryd.prog 42 #[.int .u8 z] w (Says (pathB z) w) := by
 go_enter Tryd.func42, Tryd.ntmps42
 go_wp2_with fail
 refine (unres_any _ _).mono ?_
 rintro e w' ⟨rfl, rfl⟩
 by_cases hl : unresB z = true
 all_goals
  go_wp2
  all_goals
   go_ret
   exact says_of w (by rw [Bool.eq_iff_iff]; go_light; simp at *; simp [pathB, hl]; try omega)
def SaysHex (o : Option Int) (w : World) (e : Ending) (w' : World) : Prop := e = .returned (.tuple #[.int .i64 (o.getD 0), .bool o.isSome]) /\ w = w'
theorem saysHex_of {a : Int} {b : Bool} {o : Option Int} (w : World) (h : a = o.getD 0) (h' : b = o.isSome) : SaysHex o w (.returned (.tuple #[.int .i64 a, .bool b])) w := ⟨by rw [h, h'], rfl⟩
set_option maxRecDepth 100000 in
theorem hex_any (z : Int) (w : World) (h0 : 0 <= z) (h1 : z <= 255) : Calls Tryd.prog 61 #[.int .u8 z] w (SaysHex (hexV z) w) := by
 go_enter Tryd.func61, Tryd.ntmps61
 go_wp2_with fail
 refine (digit_any _ _).mono ?_
 rintro e w' ⟨rfl, rfl⟩
 by_cases hd : digitB z = true
 all_goals
  go_wp2
  all_goals
   go_ret2
   exact saysHex_of w (by go_light; simp [digitB] at *; unfold hexV; (repeat' split) <;> simp <;> omega) (by go_light; simp [digitB] at *; unfold hexV; (repeat' split) <;> simp <;> omega)
end Go.Proofs.YtjndnjnclmpidaaDoor
namespace Go.Proofs.YtjndnjnclmpidaaDoor
set_option linter.all false
open Go.RowKit
def memB (z : Int) (l : List UInt8) : Bool := l.any fun b => decide ((b.toNat : Int) = z)
theorem take_snoc (s : ByteArray) (k : Nat) (h : k < s.size) : s.data.toList.take (k + 1) = s.data.toList.take k ++ [s[k]] := by
 rw [List.take_succ_eq_append_getElem (by simpa using h)]; rfl
theorem memB_snoc (z : Int) (s : ByteArray) (k : Nat) (h : k < s.size) : memB z (s.data.toList.take (k + 1)) = (memB z (s.data.toList.take k) || decide ((s[k].toNat : Int) = z)) := by
 rw [take_snoc s k h]; simp [memB]
theorem memB_yes (z : Int) (s : ByteArray) (k : Nat) (h : k < s.size) (he : (s[k].toNat : Int) = z) : memB z s.data.toList = true := by
 unfold memB
 rw [List.any_eq_true]
 exact ⟨s[k], by rw [show s[k] = s.data[k] from rfl]; simp, by simpa using he⟩
theorem memB_no (z : Int) (s : ByteArray) (k : Nat) (h : s.size <= k) (he : memB z (s.data.toList.take k) = false) : memB z s.data.toList = false := by
 rwa [List.take_of_length_le (by simpa using h)] at he
set_option maxRecDepth 100000 in
theorem in_any (z : Int) (s : ByteArray) (w : World) (hs : s.size <= 9223372036854775807) : Calls Tryd.prog 30 #[.int .u8 z, .string s] w (Says (memB z s.data.toList) w) := by
 go_enter Tryd.func30, Tryd.ntmps30
 go_wp2
 go_loop [5] (fun i => ∃ k : Nat, k <= s.size /\ i = .int .i64 k /\ memB z (s.data.toList.take k) = false) (fun i => s.size - (intOf i).toNat)
 case atStart => exact ⟨0, Nat.zero_le _, rfl, rfl⟩
 case round =>
  obtain ⟨k, hk, rfl, hm⟩ := hrel
  have Hm := Lib.hid hm
  clear hm
  by_cases hlt : k < s.size
  ·have Hs := Lib.hid (memB_snoc z s k hlt)
   have Hy := Lib.hid (memB_yes z s k hlt)
   go_wp2
   ·go_ret
    exact says_of w (by go_light; simp at *; rw [Hy.out (by assumption)])
   ·go_round
    case rel => exact ⟨k + 1, by omega, by go_num, by rw [Hs.out, Hm.out]; go_light; simp at *; assumption⟩
    case measure => simp [intOf]; omega
  ·go_wp2
   go_ret
   exact says_of w (memB_no z s k (by omega) Hm.out).symm
abbrev textLetters : ByteArray := ⟨#[65, 66, 67, 68, 69, 70, 71, 72, 73, 74, 75, 76, 77, 78, 79, 80, 81, 82, 83, 84, 85, 86, 87, 88, 89, 90, 97, 98, 99, 100, 101, 102, 103, 104, 105, 106, 107, 108, 109, 110, 111, 112, 113, 114, 115, 116, 117, 118, 119, 120, 121, 122]⟩
abbrev textDigits : ByteArray := ⟨#[48, 49, 50, 51, 52, 53, 54, 55, 56, 57]⟩
abbrev textUnres : ByteArray := ⟨#[45, 46, 95, 126]⟩
abbrev textPath : ByteArray := ⟨#[45, 46, 95, 126, 33, 36, 38, 39, 40, 41, 42, 43, 44, 59, 61, 58, 64]⟩
theorem of_fin {f g : Int -> Bool} (h : ∀ n : Fin 256, f (n.val : Int) = g (n.val : Int)) {z : Int} (h0 : 0 <= z) (h1 : z <= 255) : f z = g z := by
 have := h ⟨z.toNat, by omega⟩
 simpa [Int.toNat_of_nonneg h0] using this
theorem mem_letters {z : Int} (h0 : 0 <= z) (h1 : z <= 255) : memB z textLetters.data.toList = letterB z := of_fin (f := fun z => memB z textLetters.data.toList) (g := letterB) (by decide +kernel) h0 h1
theorem mem_digits {z : Int} (h0 : 0 <= z) (h1 : z <= 255) : memB z textDigits.data.toList = digitB z := of_fin (f := fun z => memB z textDigits.data.toList) (g := digitB) (by decide +kernel) h0 h1
theorem mem_unres {z : Int} (h0 : 0 <= z) (h1 : z <= 255) : (letterB z || digitB z || memB z textUnres.data.toList) = unresB z := of_fin (f := fun z => letterB z || digitB z || memB z textUnres.data.toList) (g := unresB) (by decide +kernel) h0 h1
theorem mem_path {z : Int} (h0 : 0 <= z) (h1 : z <= 255) : (letterB z || digitB z || memB z textPath.data.toList) = pathB z := of_fin (f := fun z => letterB z || digitB z || memB z textPath.data.toList) (g := pathB) (by decide +kernel) h0 h1
theorem letters_any (w : World) : Calls Tryd.prog 37 #[] w fun e w' => e = .returned (.string textLetters) /\ w = w' := by
 go_enter Tryd.func37, Tryd.ntmps37
 go_wp2
 go_ret
 exact ⟨rfl, rfl⟩
theorem in_letters (z : Int) (w : World) (h0 : 0 <= z) (h1 : z <= 255) : Calls Tryd.prog 30 #[.int .u8 z, .string textLetters] w (Says (letterB z) w) := by
 rw [<- mem_letters h0 h1]; exact in_any z textLetters w (by decide)
theorem in_digits (z : Int) (w : World) (h0 : 0 <= z) (h1 : z <= 255) : Calls Tryd.prog 30 #[.int .u8 z, .string textDigits] w (Says (digitB z) w) := by
 rw [<- mem_digits h0 h1]; exact in_any z textDigits w (by decide)
set_option maxRecDepth 100000 in
theorem class3 (z : Int) (w : World) (h0 : 0 <= z) (h1 : z <= 255) : Calls Tryd.prog 22 #[.int .u8 z, .int .i64 3] w (Says (unresB z) w) := by
 go_enter Tryd.func22, Tryd.ntmps22
 go_wp2_with fail
 refine (letters_any _).mono ?_
 rintro e w' ⟨rfl, rfl⟩
 go_wp2_with fail
 refine (in_letters z _ h0 h1).mono ?_
 rintro e w' ⟨rfl, rfl⟩
 go_wp2_with fail
 refine (in_digits z _ h0 h1).mono ?_
 rintro e w' ⟨rfl, rfl⟩
 have M := mem_unres h0 h1
 have M := Lib.hid M
 by_cases hl : letterB z = true
 ·go_wp2_with fail
  go_ret
  exact says_of w (by rw [<- M.out]; simp [hl])
 ·by_cases hd : digitB z = true
  ·go_wp2_with fail
   go_ret
   exact says_of w (by rw [<- M.out]; simp [hl, hd])
  ·go_wp2_with fail
   refine (in_any z _ _ (by decide)).mono ?_
   rintro e w' ⟨rfl, rfl⟩
   go_wp2_with fail
   go_ret
   exact says_of w (by rw [<- M.out]; simp [hl, hd])
set_option maxRecDepth 100000 in
theorem class4 (z : Int) (w : World) (h0 : 0 <= z) (h1 : z <= 255) : Calls Tryd.prog 22 #[.int .u8 z, .int .i64 4] w (Says (pathB z) w) := by
 go_enter Tryd.func22, Tryd.ntmps22
 go_wp2_with fail
 refine (letters_any _).mono ?_
 rintro e w' ⟨rfl, rfl⟩
 go_wp2_with fail
 refine (in_letters z _ h0 h1).mono ?_
 rintro e w' ⟨rfl, rfl⟩
 go_wp2_with fail
 refine (in_digits z _ h0 h1).mono ?_
 rintro e w' ⟨rfl, rfl⟩
 have M := mem_path h0 h1
 have M := Lib.hid M
 by_cases hl : letterB z = true
 ·go_wp2_with fail
  go_ret
  exact says_of w (by rw [<- M.out]; simp [hl])
 ·by_cases hd : digitB z = true
  ·go_wp2_with fail
   go_ret
   exact says_of w (by rw [<- M.out]; simp [hl, hd])
  ·go_wp2_with fail
   refine (in_any z _ _ (by decide)).mono ?_
   rintro e w' ⟨rfl, rfl⟩
   go_wp2_with fail
   go_ret
   exact says_of w (by rw [<- M.out]; simp [hl, hd])
theorem byte_le (b : UInt8) : (b.toNat : Int) <= 255 := by have := b.toNat_lt; omega
def hexN (z : Int) : Int := (hexV z).getD (-1)
def hexAt (k : Nat) (z : Int) : Bool := decide ((([48, 49, 50, 51, 52, 53, 54, 55, 56, 57, 97, 98, 99, 100, 101, 102] : List Nat).getD k 0 : Int) = z) || decide ((([48, 49, 50, 51, 52, 53, 54, 55, 56, 57, 65, 66, 67, 68, 69, 70] : List Nat).getD k 0 : Int) = z)
theorem hex_hit : ∀ k : Fin 16, ∀ n : Fin 256, hexAt k.val (n.val : Int) = true -> hexN (n.val : Int) = (k.val : Int) := by decide +kernel
theorem hex_miss : ∀ n : Fin 256, (∀ k : Fin 16, hexAt k.val (n.val : Int) = false) -> hexN (n.val : Int) = -1 := by decide +kernel
def SaysInt (n : Int) (w : World) (e : Ending) (w' : World) : Prop := e = .returned (.int .i64 n) /\ w = w'
end Go.Proofs.YtjndnjnclmpidaaDoor
namespace Go.Proofs.YtjndnjnclmpidaaDoor
set_option linter.all false
open Go.RowKit
abbrev hexLow : ByteArray := ⟨#[48, 49, 50, 51, 52, 53, 54, 55, 56, 57, 97, 98, 99, 100, 101, 102]⟩
abbrev hexUp : ByteArray := ⟨#[48, 49, 50, 51, 52, 53, 54, 55, 56, 57, 65, 66, 67, 68, 69, 70]⟩
theorem low_at : ∀ k : Fin 16, (hexLow[k.val]'k.isLt).toNat = ([48, 49, 50, 51, 52, 53, 54, 55, 56, 57, 97, 98, 99, 100, 101, 102] : List Nat).getD k.val 0 := by decide
theorem up_at : ∀ k : Fin 16, (hexUp[k.val]'k.isLt).toNat = ([48, 49, 50, 51, 52, 53, 54, 55, 56, 57, 65, 66, 67, 68, 69, 70] : List Nat).getD k.val 0 := by decide
theorem hexAt_eq {k : Nat} (hk : k < 16) (z : Int) : hexAt k z = (decide (((hexLow[k]'hk).toNat : Int) = z) || decide (((hexUp[k]'hk).toNat : Int) = z)) := by
 have h1 := low_at ⟨k, hk⟩
 have h2 := up_at ⟨k, hk⟩
 simp only at h1 h2
 unfold hexAt
 rw [h1, h2]
theorem hit_of {k : Nat} (hk : k < 16) {z : Int} (h0 : 0 <= z) (h1 : z <= 255) (h : ((hexLow[k]'hk).toNat : Int) = z \/ ((hexUp[k]'hk).toNat : Int) = z) : (k : Int) = hexN z := by
 have := hex_hit ⟨k, hk⟩ ⟨z.toNat, by omega⟩
 simp only [Int.toNat_of_nonneg h0] at this
 exact (this (by rw [hexAt_eq hk]; simpa using h)).symm
theorem miss_of {z : Int} (h0 : 0 <= z) (h1 : z <= 255) (h : ∀ j, j < 16 -> hexAt j z = false) : -1 = hexN z := by
 have := hex_miss ⟨z.toNat, by omega⟩
 simp only [Int.toNat_of_nonneg h0] at this
 exact (this fun k => h k.val k.isLt).symm
theorem next_of {k : Nat} (hk : k < 16) {z : Int} (h : ∀ j, j < k -> hexAt j z = false) (h1 : ¬ ((hexLow[k]'hk).toNat : Int) = z) (h2 : ¬ ((hexUp[k]'hk).toNat : Int) = z) : ∀ j, j < k + 1 -> hexAt j z = false := by
 intro j hj
 by_cases hjk : j < k
 ·exact h j hjk
 ·obtain rfl : j = k := by omega
  rw [hexAt_eq hk]
  simp [h1, h2]
theorem saysInt_of {a b : Int} (w : World) (h : a = b) : SaysInt b w (.returned (.int .i64 a)) w := ⟨by rw [h], rfl⟩
set_option maxRecDepth 100000 in
theorem refHex_any (z : Int) (w : World) (h0 : 0 <= z) (h1 : z <= 255) : Calls Tryd.prog 28 #[.int .u8 z] w (SaysInt (hexN z) w) := by
 go_enter Tryd.func28, Tryd.ntmps28
 go_wp2
 go_loop [5] (fun i => ∃ k : Nat, k <= 16 /\ i = .int .i64 k /\ ∀ j, j < k -> hexAt j z = false) (fun i => 16 - (intOf i).toNat)
 case atStart => exact ⟨0, Nat.zero_le _, rfl, fun j h => by omega⟩
 case round =>
  obtain ⟨k, hk, rfl, hm⟩ := hrel
  have Hm := Lib.hid hm
  clear hm
  by_cases hlt : k < 16
  ·go_wp2
   ·go_ret
    exact saysInt_of w (hit_of hlt h0 h1 (.inl (by assumption)))
   ·go_ret
    refine saysInt_of w (hit_of hlt h0 h1 ?_)
    go_light
    simp only [beq_iff_eq] at *
    assumption
   ·go_round
    case rel =>
     refine ⟨k + 1, by omega, by go_num, ?_⟩
     go_light
     simp only [beq_eq_false_iff_ne, ne_eq] at *
     exact next_of hlt Hm.out (‹_ /\ _›).1 (‹_ /\ _›).2
    case measure => simp [intOf]; omega
  ·go_wp2
   obtain rfl : k = 16 := by omega
   go_ret
   exact saysInt_of w (miss_of h0 h1 Hm.out)
end Go.Proofs.YtjndnjnclmpidaaDoor
namespace Go.Proofs.YtjndnjnclmpidaaDoor
set_option linter.all false
open Go.RowKit
theorem of_byte {p : UInt8 -> Prop} (h : ∀ n : Fin 256, p (UInt8.ofNat n.val)) (c : UInt8) : p c := by
 have := h ⟨c.toNat, c.toNat_lt⟩
 simpa using this
def tri (a b : UInt8) : Option UInt8 :=
 match hexV (a.toNat : Int), hexV (b.toNat : Int) with
 | some h, some l => some (UInt8.ofNat (h * 16 + l).toNat)
 | _, _ => none
def put (n : Nat) (l : List UInt8) : Except Nat (List UInt8) -> Except Nat (List UInt8)
 | .ok x => .ok (l ++ x)
 | .error k => .error (n + k)
theorem put_put (n m : Nat) (l x : List UInt8) (r : Except Nat (List UInt8)) : put n l (put m x r) = put (n + m) (l ++ x) r := by
 cases r <;> simp [put, Nat.add_assoc]
theorem put_zero (r : Except Nat (List UInt8)) : put 0 [] r = r := by cases r <;> simp [put]
def dec : List UInt8 -> Except Nat (List UInt8)
 | [] => .ok []
 | [c] => if c = 37 then .error 0 else .ok [c]
 | [c, a] => if c = 37 then .error 0 else put 1 [c] (dec [a])
 | c :: a :: b :: r => if c = 37 then (match tri a b with | some x => put 3 [x] (dec r) | none => .error 0) else put 1 [c] (dec (a :: b :: r))
theorem dec_plain {c : UInt8} (h : c ≠ 37) (t : List UInt8) : dec (c :: t) = put 1 [c] (dec t) := by
 rcases t with _ | ⟨a, _ | ⟨b, r⟩⟩ <;> simp [dec, h, put]
theorem dec_tri {a b x : UInt8} (h : tri a b = some x) (r : List UInt8) : dec (37 :: a :: b :: r) = put 3 [x] (dec r) := by
 simp [dec, h]
theorem dec_wrong {a b : UInt8} (h : tri a b = none) (r : List UInt8) : dec (37 :: a :: b :: r) = .error 0 := by
 simp [dec, h]
theorem dec_short {t : List UInt8} (h : t.length < 2) : dec (37 :: t) = .error 0 := by
 rcases t with _ | ⟨a, _ | ⟨b, r⟩⟩
 ·simp [dec]
 ·simp [dec]
 ·simp at h; omega
theorem drop_at (s : ByteArray) (k : Nat) (h : k < s.size) : s.data.toList.drop k = s[k] :: s.data.toList.drop (k + 1) := by
 rw [List.drop_eq_getElem_cons (by simpa using h)]; rfl
theorem at_plain (s : ByteArray) (k : Nat) (l : List UInt8) (h : k < s.size) (hc : s[k] ≠ 37) : put (k + 1) (l ++ [s[k]]) (dec (s.data.toList.drop (k + 1))) = put k l (dec (s.data.toList.drop k)) := by
 rw [drop_at s k h, dec_plain hc, put_put]
theorem at_tri (s : ByteArray) (k : Nat) (l : List UInt8) (x : UInt8) (h : k + 2 < s.size) (hc : s[k] = 37) (ht : tri s[k + 1] s[k + 2] = some x) : put (k + 3) (l ++ [x]) (dec (s.data.toList.drop (k + 3))) = put k l (dec (s.data.toList.drop k)) := by
 rw [drop_at s k (by omega), drop_at s (k + 1) (by omega), drop_at s (k + 2) (by omega), hc, dec_tri ht, put_put]
theorem at_wrong (s : ByteArray) (k : Nat) (l : List UInt8) (h : k + 2 < s.size) (hc : s[k] = 37) (ht : tri s[k + 1] s[k + 2] = none) : put k l (dec (s.data.toList.drop k)) = .error k := by
 rw [drop_at s k (by omega), drop_at s (k + 1) (by omega), drop_at s (k + 2) (by omega), hc, dec_wrong ht]; rfl
theorem at_short (s : ByteArray) (k : Nat) (l : List UInt8) (hk : k < s.size) (h : s.size <= k + 2) (hc : s[k] = 37) : put k l (dec (s.data.toList.drop k)) = .error k := by
 rw [drop_at s k hk, hc, dec_short (by simp; omega)]; rfl
theorem at_end (s : ByteArray) (k : Nat) (l : List UInt8) (h : s.size <= k) : put k l (dec (s.data.toList.drop k)) = .ok l := by
 rw [List.drop_eq_nil_of_le (by simpa using h)]; simp [dec, put]
def digU (n : Nat) : UInt8 := hexUp.data.toList.getD n 0
def encB (c : UInt8) : List UInt8 := if unresB (c.toNat : Int) then [c] else [37, digU (c.toNat / 16), digU (c.toNat % 16)]
def enc (l : List UInt8) : List UInt8 := l.flatMap encB
theorem enc_snoc (s : ByteArray) (k : Nat) (h : k < s.size) : enc (s.data.toList.take (k + 1)) = enc (s.data.toList.take k) ++ encB s[k] := by
 rw [take_snoc s k h]; simp [enc]
theorem enc_whole (s : ByteArray) (k : Nat) (h : s.size <= k) : enc (s.data.toList.take k) = enc s.data.toList := by
 rw [List.take_of_length_le (by simpa using h)]
theorem encB_yes {c : UInt8} (h : unresB (c.toNat : Int) = true) : encB c = [c] := if_pos h
theorem encB_no {c : UInt8} (h : unresB (c.toNat : Int) = false) : encB c = [37, digU (c.toNat / 16), digU (c.toNat % 16)] := if_neg (by simp [h])
theorem unres_not : ∀ n : Fin 256, unresB ((UInt8.ofNat n.val).toNat : Int) = true -> UInt8.ofNat n.val ≠ 37 := by decide +kernel
theorem tri_dig : ∀ n : Fin 256, tri (digU ((UInt8.ofNat n.val).toNat / 16)) (digU ((UInt8.ofNat n.val).toNat % 16)) = some (UInt8.ofNat n.val) := by decide +kernel
theorem encB_all : ∀ n : Fin 256, ((encB (UInt8.ofNat n.val)).all fun b => unresB (b.toNat : Int) || b == 37) = true := by decide +kernel
theorem dec_encB (c : UInt8) (t : List UInt8) : dec (encB c ++ t) = put (encB c).length [c] (dec t) := by
 cases h : unresB (c.toNat : Int)
 ·rw [encB_no h]
  exact dec_tri (of_byte (p := fun c => tri (digU (c.toNat / 16)) (digU (c.toNat % 16)) = some c) tri_dig c) t
 ·rw [encB_yes h]
  exact dec_plain (of_byte (p := fun c => unresB (c.toNat : Int) = true -> c ≠ 37) unres_not c h) t
theorem dec_enc : ∀ l : List UInt8, dec (enc l) = .ok l
 | [] => rfl
 | c :: t => by
  rw [show enc (c :: t) = encB c ++ enc t by simp [enc], dec_encB, dec_enc t]; rfl
theorem encB_le (c : UInt8) : (encB c).length <= 3 := by
 unfold encB; split <;> simp
theorem enc_le : ∀ l : List UInt8, (enc l).length <= 3 * l.length
 | [] => by simp [enc]
 | c :: t => by
  rw [show enc (c :: t) = encB c ++ enc t by simp [enc]]
  have h1 := encB_le c
  have h2 := enc_le t
  simp only [List.length_append, List.length_cons]; omega
theorem enc_all : ∀ (l : List UInt8), ∀ b ∈ enc l, unresB (b.toNat : Int) = true \/ b = 37
 | [], b, h => by simp [enc] at h
 | c :: t, b, h => by
  rw [show enc (c :: t) = encB c ++ enc t by simp [enc], List.mem_append] at h
  rcases h with h | h
  ·have := List.all_eq_true.1 (of_byte (p := fun c => ((encB c).all fun b => unresB (b.toNat : Int) || b == 37) = true) encB_all c) b h
   simpa using this
  ·exact enc_all t b h
end Go.Proofs.YtjndnjnclmpidaaDoor
namespace Go.Proofs.YtjndnjnclmpidaaDoor
set_option linter.all false
open Go.RowKit
def sDot : ByteArray := ⟨#[46]⟩
def sUp : ByteArray := ⟨#[46, 46]⟩
def sNil : ByteArray := ⟨#[]⟩
def cutSl : List UInt8 -> List (List UInt8)
 | [] => [[]]
 | c :: l => if c = 47 then [] :: cutSl l else match cutSl l with
  | [] => [[c]]
  | x :: r => (c :: x) :: r
def rawL : List UInt8 -> List (List UInt8)
 | [] => []
 | c :: l => if c = 47 then cutSl l else []
theorem cutSl_ne : ∀ l, cutSl l ≠ []
 | [] => by simp [cutSl]
 | c :: l => by
  unfold cutSl
  split
  ·simp
  ·split <;> simp
theorem cutSl_len : ∀ l, (cutSl l).length = l.count 47 + 1
 | [] => rfl
 | c :: l => by
  have ih := cutSl_len l
  unfold cutSl
  by_cases hc : c = 47
  ·rw [if_pos hc, hc, List.count_cons_self, List.length_cons, ih]
  ·rw [if_neg hc, List.count_cons_of_ne hc]
   cases h : cutSl l with
   | nil => exact absurd h (cutSl_ne l)
   | cons x r => rw [h] at ih; exact ih
theorem rawL_len {s : List UInt8} (h : s.head? = some 47) : (rawL s).length = s.count 47 := by
 cases s with
 | nil => simp at h
 | cons c l =>
  have hc : c = 47 := by simpa using h
  subst hc
  show (if (47 : UInt8) = 47 then cutSl l else []).length = _
  rw [if_pos rfl, cutSl_len, List.count_cons_self]
def joinSl (L : List (List UInt8)) : List UInt8 := L.flatMap fun x => 47 :: x
theorem cutSl_app : ∀ (x l : List UInt8), (47 : UInt8) ∉ x -> cutSl (x ++ 47 :: l) = x :: cutSl l
 | [], l, _ => by simp [cutSl]
 | c :: x, l, h => by
  have hc : c ≠ 47 := fun e => h (by simp [e])
  have ih := cutSl_app x l (fun m => h (by simp [m]))
  rw [List.cons_append, cutSl, if_neg hc, ih]
theorem cutSl_one : ∀ (x : List UInt8), (47 : UInt8) ∉ x -> cutSl x = [x]
 | [], _ => rfl
 | c :: x, h => by
  have hc : c ≠ 47 := fun e => h (by simp [e])
  have ih := cutSl_one x (fun m => h (by simp [m]))
  rw [cutSl, if_neg hc, ih]
theorem cutSl_join : ∀ (L : List (List UInt8)) (x : List UInt8), (47 : UInt8) ∉ x -> (∀ y ∈ L, (47 : UInt8) ∉ y) -> cutSl (x ++ joinSl L) = x :: L
 | [], x, hx, _ => by
  show cutSl (x ++ []) = _
  rw [List.append_nil]; exact cutSl_one x hx
 | y :: L, x, hx, hL => by
  have e : joinSl (y :: L) = 47 :: (y ++ joinSl L) := by simp [joinSl]
  rw [e, cutSl_app x _ hx, cutSl_join L y (hL y (by simp)) fun z hz => hL z (by simp [hz])]
theorem rawL_join {x : List UInt8} {L : List (List UInt8)} (hx : (47 : UInt8) ∉ x) (hL : ∀ y ∈ L, (47 : UInt8) ∉ y) : rawL (joinSl (x :: L)) = x :: L := by
 have e : joinSl (x :: L) = 47 :: (x ++ joinSl L) := by simp [joinSl]
 rw [e]
 show (if (47 : UInt8) = 47 then cutSl _ else []) = _
 rw [if_pos rfl, cutSl_join L x hx hL]
def cleanS : Nat -> List ByteArray -> Bool -> List ByteArray -> Except Nat (List ByteArray × Bool)
 | _, acc, dir, [] => .ok (acc, dir)
 | k, acc, _, s :: r =>
  if s = sUp then (if acc = [] then .error k else cleanS (k + 1) acc.dropLast true r)
  else if s = sDot then cleanS (k + 1) acc true r
  else if s = sNil then (if r = [] then .ok (acc, true) else cleanS (k + 1) (acc ++ [s]) true r)
  else cleanS (k + 1) (acc ++ [s]) false r
def badS (s : ByteArray) : Bool := memB 47 s.data.toList || (memB 92 s.data.toList || memB 0 s.data.toList)
def plainS (s : ByteArray) : Bool := decide (s ≠ sDot) && (decide (s ≠ sUp) && !badS s)
theorem plainS_parts {s : ByteArray} : plainS s = true ↔ s ≠ sDot /\ s ≠ sUp /\ badS s = false := by
 unfold plainS
 simp
theorem clean_plain : ∀ (r : List ByteArray) (k : Nat) (acc : List ByteArray) (dir : Bool), (∀ x ∈ r, badS x = false) -> (∀ x ∈ acc, plainS x = true) -> ∀ L d, cleanS k acc dir r = .ok (L, d) -> (∀ x ∈ L, plainS x = true) /\ L.length <= acc.length + r.length
 | [], k, acc, dir, hr, ha => fun L d e => by
  injection e with e
  injection e with e1 e2
  subst e1
  exact ⟨ha, by simp⟩
 | s :: r, k, acc, dir, hr, ha => fun L d e => by
  have hr2 : ∀ x ∈ r, badS x = false := fun x hx => hr x (by simp [hx])
  have more : s ≠ sUp -> s ≠ sDot -> ∀ x ∈ acc ++ [s], plainS x = true := fun h1 h2 x hx => by
   rcases List.mem_append.1 hx with hx | hx
   ·exact ha x hx
   ·rw [List.mem_singleton] at hx
    subst hx
    exact plainS_parts.2 ⟨h2, h1, hr x (by simp)⟩
  unfold cleanS at e
  rw [List.length_cons]
  split at e
  ·split at e
   ·cases e
   ·have h := clean_plain r (k + 1) acc.dropLast true hr2 (fun x hx => ha x (List.dropLast_subset _ hx)) L d e
    refine ⟨h.1, ?_⟩
    have := h.2
    rw [List.length_dropLast] at this
    omega
  ·next h1 =>
   split at e
   ·have h := clean_plain r (k + 1) acc true hr2 ha L d e
    exact ⟨h.1, by have := h.2; omega⟩
   ·next h2 =>
    split at e
    ·split at e
     ·injection e with e
      injection e with e1 e2
      subst e1
      exact ⟨ha, by omega⟩
     ·have h := clean_plain r (k + 1) (acc ++ [s]) true hr2 (more h1 h2) L d e
      refine ⟨h.1, ?_⟩
      have := h.2
      rw [List.length_append, List.length_singleton] at this
      omega
    ·have h := clean_plain r (k + 1) (acc ++ [s]) false hr2 (more h1 h2) L d e
     refine ⟨h.1, ?_⟩
     have := h.2
     rw [List.length_append, List.length_singleton] at this
     omega
theorem clean_stay : ∀ (l : List ByteArray) (k : Nat) (acc : List ByteArray) (dir : Bool) (r : List ByteArray), (∀ x ∈ l, x ≠ sDot /\ x ≠ sUp) -> (r ≠ [] \/ l.getLast? ≠ some sNil) -> cleanS k acc dir (l ++ r) = cleanS (k + l.length) (acc ++ l) (if l = [] then dir else decide (l.getLast? = some sNil)) r
 | [], k, acc, dir, r, h, hr => by simp
 | s :: l, k, acc, dir, r, h, hr => by
  obtain ⟨h1, h2⟩ := h s (by simp)
  have hl : ∀ x ∈ l, x ≠ sDot /\ x ≠ sUp := fun x hx => h x (by simp [hx])
  have hr2 : r ≠ [] \/ l.getLast? ≠ some sNil := by
   rcases hr with hr | hr
   ·exact .inl hr
   ·by_cases hl0 : l = []
    ·subst hl0; exact .inr (by simp)
    ·refine .inr fun e => hr ?_
     obtain ⟨y, l', rfl⟩ := List.exists_cons_of_ne_nil hl0
     rw [List.getLast?_cons_cons]; exact e
  have ih := fun dir => clean_stay l (k + 1) (acc ++ [s]) dir r hl hr2
  have e1 : k + 1 + l.length = k + (s :: l).length := by rw [List.length_cons]; omega
  have e2 : acc ++ [s] ++ l = acc ++ s :: l := by simp
  have e3 : ∀ d : Bool, (l = [] -> d = decide (s = sNil)) -> (if l = [] then d else decide (l.getLast? = some sNil)) = (if s :: l = [] then dir else decide ((s :: l).getLast? = some sNil)) := fun d hd => by
   rw [if_neg (by simp : ¬ s :: l = [])]
   by_cases hl0 : l = []
   ·rw [if_pos hl0, hd hl0]; subst hl0; simp
   ·rw [if_neg hl0]
    obtain ⟨y, l', rfl⟩ := List.exists_cons_of_ne_nil hl0
    rw [List.getLast?_cons_cons]
  rw [List.cons_append, cleanS, if_neg h2, if_neg h1]
  by_cases hn : s = sNil
  ·rw [if_pos hn]
   have hne : l ++ r ≠ [] := by
    rcases hr with hr | hr
    ·simp [hr]
    ·intro e
     have hl0 : l = [] := (List.append_eq_nil_iff.1 e).1
     subst hl0
     exact hr (by simp [hn])
   rw [if_neg hne, ih, e1, e2, e3 true fun _ => by rw [decide_eq_true hn]]
  ·rw [if_neg hn, ih, e1, e2, e3 false fun _ => by rw [decide_eq_false hn]]
def shapeS : Nat -> List UInt8 -> Option Nat
 | _, [] => none
 | k, c :: l => if c = 37 then (match l with
   | a :: b :: _ => if (tri a b).isSome then shapeS (k + 1) l else some k
   | _ => some k)
  else if c = 47 \/ pathB (c.toNat : Int) = true then shapeS (k + 1) l else some k
def decB (x : List UInt8) : ByteArray := match dec x with
 | .ok y => ⟨y.toArray⟩
 | .error _ => ⟨#[]⟩
def firstBad : Nat -> List (List UInt8) -> Option Nat
 | _, [] => none
 | n, x :: r => if badS (decB x) then some n else firstBad (n + x.length + 1) r
def offs : Nat -> List (List UInt8) -> List Nat
 | _, [] => []
 | n, x :: r => n :: offs (n + x.length + 1) r
def parseP (s : List UInt8) : Except Nat (List ByteArray × Bool) :=
 if s.head? = some 47 then match shapeS 0 s with
  | some k => .error k
  | none => match firstBad 1 (rawL s) with
   | some n => .error n
   | none => match cleanS 0 [] false ((rawL s).map decB) with
    | .error k => .error ((offs 1 (rawL s)).getD k 0)
    | .ok p => .ok p
 else .error 0
theorem firstBad_none : ∀ (L : List (List UInt8)) (n : Nat), firstBad n L = none ↔ ∀ x ∈ L, badS (decB x) = false
 | [], n => by simp [firstBad]
 | x :: r, n => by
  unfold firstBad
  cases hb : badS (decB x)
  ·rw [if_neg (by simp), firstBad_none r]
   simp [hb]
  ·rw [if_pos rfl]
   simp [hb]
theorem parse_plain {s : List UInt8} {L : List ByteArray} {d : Bool} (h : parseP s = .ok (L, d)) : (∀ x ∈ L, plainS x = true) /\ L.length <= s.count 47 := by
 unfold parseP at h
 split at h
 ·next h0 =>
  split at h
  ·cases h
  ·split at h
   ·cases h
   ·next hf =>
    split at h
    ·cases h
    ·next p hp =>
     injection h with h
     subst h
     have h1 := (firstBad_none _ _).1 hf
     have h2 := clean_plain ((rawL s).map decB) 0 [] false (fun x hx => by obtain ⟨y, hy, rfl⟩ := List.mem_map.1 hx; exact h1 y hy) (fun x hx => by cases hx) L d hp
     refine ⟨h2.1, ?_⟩
     have := h2.2
     rw [List.length_map, rawL_len h0] at this
     simpa using this
 ·cases h
def encS (x : ByteArray) : List UInt8 := enc x.data.toList
def textL (L : List ByteArray) (dir : Bool) : List UInt8 := joinSl (L.map encS) ++ (if dir = true \/ L = [] then [47] else [])
theorem unres_path : ∀ n : Fin 256, unresB ((UInt8.ofNat n.val).toNat : Int) = true -> pathB ((UInt8.ofNat n.val).toNat : Int) = true /\ UInt8.ofNat n.val ≠ 47 := by decide +kernel
theorem enc_no (l : List UInt8) : (47 : UInt8) ∉ enc l := fun h => by
 rcases enc_all l 47 h with h | h
 ·exact (of_byte (p := fun c => unresB (c.toNat : Int) = true -> pathB (c.toNat : Int) = true /\ c ≠ 47) unres_path 47 h).2 rfl
 ·cases h
theorem shape_none_cons {c : UInt8} {l : List UInt8} {k : Nat} (h : c = 47 \/ pathB (c.toNat : Int) = true) (h37 : c ≠ 37) : shapeS k (c :: l) = shapeS (k + 1) l := by
 rw [shapeS.eq_def]
 simp only
 rw [if_neg h37, if_pos h]
theorem digU_path : ∀ n : Fin 16, pathB ((digU n.val).toNat : Int) = true /\ digU n.val ≠ 37 := by decide +kernel
theorem shape_encB (c : UInt8) (k : Nat) (l : List UInt8) : shapeS k (encB c ++ l) = shapeS (k + (encB c).length) l := by
 cases h : unresB (c.toNat : Int)
 ·rw [encB_no h]
  have h1 := digU_path ⟨c.toNat / 16, by have := c.toNat_lt; omega⟩
  have h2 := digU_path ⟨c.toNat % 16, by omega⟩
  have ht := of_byte (p := fun c => tri (digU (c.toNat / 16)) (digU (c.toNat % 16)) = some c) tri_dig c
  show shapeS k (37 :: digU (c.toNat / 16) :: digU (c.toNat % 16) :: l) = shapeS (k + 3) l
  rw [shapeS.eq_def]
  simp only [ht, Option.isSome_some, if_true]
  rw [shape_none_cons (.inr h1.1) h1.2, shape_none_cons (.inr h2.1) h2.2]
 ·rw [encB_yes h]
  have h1 := of_byte (p := fun c => unresB (c.toNat : Int) = true -> pathB (c.toNat : Int) = true /\ c ≠ 47) unres_path c h
  have h2 := of_byte (p := fun c => unresB (c.toNat : Int) = true -> c ≠ 37) unres_not c h
  show shapeS k (c :: l) = shapeS (k + 1) l
  exact shape_none_cons (.inr h1.1) h2
theorem shape_enc : ∀ (x : List UInt8) (k : Nat) (l : List UInt8), shapeS k (enc x ++ l) = shapeS (k + (enc x).length) l
 | [], k, l => rfl
 | c :: x, k, l => by
  rw [show enc (c :: x) = encB c ++ enc x by simp [enc], List.append_assoc, shape_encB, shape_enc x, List.length_append]
  congr 1; omega
theorem shape_join : ∀ (L : List ByteArray) (k : Nat) (l : List UInt8), shapeS k (joinSl (L.map encS) ++ l) = shapeS (k + (joinSl (L.map encS)).length) l
 | [], k, l => rfl
 | x :: L, k, l => by
  have e : joinSl ((x :: L).map encS) = 47 :: (encS x ++ joinSl (L.map encS)) := by simp [joinSl]
  rw [e, List.cons_append, shape_none_cons (.inl rfl) (by decide), List.append_assoc, show encS x = enc x.data.toList from rfl, shape_enc, shape_join L]
  rw [List.length_cons, List.length_append]
  congr 1; omega
theorem decB_enc (x : ByteArray) : decB (encS x) = x := by
 unfold decB encS
 rw [dec_enc]
theorem text_parts (L : List ByteArray) (dir : Bool) : ∃ R : List (List UInt8), R ≠ [] /\ textL L dir = joinSl R /\ (∀ y ∈ R, (47 : UInt8) ∉ y) /\ R.map decB = L ++ (if dir = true \/ L = [] then [sNil] else []) := by
 have hj : ∀ a b : List (List UInt8), joinSl (a ++ b) = joinSl a ++ joinSl b := fun a b => by simp [joinSl]
 refine ⟨L.map encS ++ (if dir = true \/ L = [] then [[]] else []), ?_, ?_, ?_, ?_⟩
 ·split
  ·simp
  ·next h => simp; exact fun e => h (.inr e)
 ·unfold textL
  rw [hj]
  split <;> rfl
 ·intro y hy
  rcases List.mem_append.1 hy with hy | hy
  ·obtain ⟨x, _, rfl⟩ := List.mem_map.1 hy
   exact enc_no _
  ·split at hy
   ·rw [List.mem_singleton] at hy; subst hy; simp
   ·cases hy
 ·rw [List.map_append, List.map_map]
  congr 1
  ·rw [show (decB ∘ encS) = id from funext decB_enc, List.map_id]
  ·split <;> rfl
theorem parse_text (L : List ByteArray) (dir : Bool) (h : ∀ x ∈ L, plainS x = true) (hl : L = [] \/ L.getLast? ≠ some sNil \/ dir = true) : parseP (textL L dir) = .ok (L, dir || decide (L = [])) := by
 obtain ⟨R, hR, e1, hno, e2⟩ := text_parts L dir
 obtain ⟨x, R', rfl⟩ := List.exists_cons_of_ne_nil hR
 have hraw : rawL (textL L dir) = x :: R' := by
  rw [e1]
  exact rawL_join (hno x (by simp)) fun y hy => hno y (by simp [hy])
 have hhead : (textL L dir).head? = some 47 := by rw [e1]; rfl
 have hsh : shapeS 0 (textL L dir) = none := by
  unfold textL
  rw [shape_join]
  split
  ·rw [shape_none_cons (.inl rfl) (by decide)]; rfl
  ·rfl
 have hfb : firstBad 1 (x :: R') = none := (firstBad_none _ _).2 fun y hy => by
  have hm : decB y ∈ L ++ (if dir = true \/ L = [] then [sNil] else []) := by rw [<- e2]; exact List.mem_map_of_mem hy
  rcases List.mem_append.1 hm with hm | hm
  ·exact (plainS_parts.1 (h _ hm)).2.2
  ·split at hm
   ·rw [List.mem_singleton] at hm; rw [hm]; rfl
   ·cases hm
 unfold parseP
 rw [if_pos hhead, hsh]
 simp only
 rw [hraw, hfb]
 simp only
 rw [e2]
 have hd : ∀ y ∈ L, y ≠ sDot /\ y ≠ sUp := fun y hy => ⟨(plainS_parts.1 (h y hy)).1, (plainS_parts.1 (h y hy)).2.1⟩
 by_cases hc : dir = true \/ L = []
 ·rw [if_pos hc, clean_stay L 0 [] false [sNil] hd (.inl (by simp))]
  have e3 : ∀ k acc d, cleanS k acc d [sNil] = .ok (acc, true) := fun k acc d => by
   rw [cleanS, if_neg (by decide), if_neg (by decide), if_pos rfl, if_pos rfl]
  rw [e3]
  simp only [List.nil_append]
  have : (dir || decide (L = [])) = true := by rcases hc with hc | hc <;> simp [hc]
  rw [this]
 ·rw [if_neg hc]
  have hL0 : L ≠ [] := fun e => hc (.inr e)
  have hdir : dir = false := by cases dir; rfl; exact absurd (.inl rfl) hc
  have hlast : L.getLast? ≠ some sNil := by
   rcases hl with hl | hl | hl
   ·exact absurd hl hL0
   ·exact hl
   ·rw [hdir] at hl; cases hl
  have h9 := clean_stay L 0 [] false [] hd (.inr hlast)
  have h10 : cleanS 0 [] false (L ++ []) = .ok (L, false) := by
   rw [h9, cleanS, if_neg hL0, decide_eq_false hlast]
   rfl
  rw [h10, hdir, decide_eq_false hL0]
  rfl
end Go.Proofs.YtjndnjnclmpidaaDoor
namespace Go.Proofs.YtjndnjnclmpidaaDoor
set_option linter.all false
open Go.RowKit
def NoPct (l : List UInt8) : Prop := ∀ i, l.length <= i + 2 -> l[i]? ≠ some 37
theorem NoPct.tail {c : UInt8} {l : List UInt8} (h : NoPct (c :: l)) : NoPct l := fun i hi e => h (i + 1) (by rw [List.length_cons]; omega) (by simpa using e)
theorem NoPct.two {l : List UInt8} (h : NoPct (37 :: l)) : ∃ y z r, l = y :: z :: r := by
 rcases l with _ | ⟨y, _ | ⟨z, r⟩⟩
 ·exact absurd rfl (h 0 (by simp))
 ·exact absurd rfl (h 0 (by simp))
 ·exact ⟨y, z, r, rfl⟩
theorem shape_any : ∀ (l : List UInt8) (k j : Nat), shapeS k l = none -> shapeS j l = none
 | [], _, _, _ => rfl
 | c :: l, k, j, h => by
  rw [shapeS.eq_def] at h ⊢
  simp only at h ⊢
  by_cases hc : c = 37
  ·rw [if_pos hc] at h ⊢
   rcases l with _ | ⟨a, _ | ⟨b, r⟩⟩
   ·cases h
   ·cases h
   ·simp only at h ⊢
    split at h
    ·next ht => rw [if_pos ht]; exact shape_any _ _ _ h
    ·cases h
  ·rw [if_neg hc] at h ⊢
   split at h
   ·next hp => rw [if_pos hp]; exact shape_any _ _ _ h
   ·cases h
section
variable {c d1 d2 : UInt8}
structure Tri (c d1 d2 : UInt8) : Prop where
 t : tri d1 d2 = some c
 u : unresB (c.toNat : Int) = true
 p1 : pathB (d1.toNat : Int) = true
 n1 : d1 ≠ 37
 s1 : d1 ≠ 47
 p2 : pathB (d2.toNat : Int) = true
 n2 : d2 ≠ 37
 s2 : d2 ≠ 47
theorem Tri.c37 (h : Tri c d1 d2) : c ≠ 37 := of_byte (p := fun c => unresB (c.toNat : Int) = true -> c ≠ 37) unres_not c h.u
theorem Tri.c47 (h : Tri c d1 d2) : c ≠ 47 := (of_byte (p := fun c => unresB (c.toNat : Int) = true -> pathB (c.toNat : Int) = true /\ c ≠ 47) unres_path c h.u).2
theorem shape_tri (h : Tri c d1 d2) (b : List UInt8) : ∀ (a : List UInt8) (k : Nat), NoPct a -> shapeS k (a ++ c :: b) = none -> shapeS k (a ++ 37 :: d1 :: d2 :: b) = none
 | [], k, hn, e => by
  have hc := of_byte (p := fun c => unresB (c.toNat : Int) = true -> pathB (c.toNat : Int) = true /\ c ≠ 47) unres_path c h.u
  rw [List.nil_append, shape_none_cons (.inr hc.1) h.c37] at e
  rw [List.nil_append, shapeS.eq_def]
  simp only [h.t, Option.isSome_some, if_true]
  rw [shape_none_cons (.inr h.p1) h.n1, shape_none_cons (.inr h.p2) h.n2]
  exact shape_any _ _ _ e
 | x :: a, k, hn, e => by
  by_cases hx : x = 37
  ·subst hx
   obtain ⟨y, z, r, rfl⟩ := hn.two
   rw [shapeS.eq_def] at e ⊢
   simp only [List.cons_append, if_true] at e ⊢
   split at e
   ·next ht =>
    rw [if_pos ht]
    exact shape_tri h b (y :: z :: r) (k + 1) hn.tail e
   ·cases e
  ·rw [List.cons_append, shapeS.eq_def] at e ⊢
   simp only at e ⊢
   rw [if_neg hx] at e ⊢
   split at e
   ·next hp => rw [if_pos hp]; exact shape_tri h b a (k + 1) hn.tail e
   ·cases e
def DSame (A B : List UInt8) : Prop := (∃ y, dec A = .ok y /\ dec B = .ok y) \/ ((∃ e, dec A = .error e) /\ ∃ e, dec B = .error e)
theorem DSame.put {A B : List UInt8} {n m : Nat} {x : List UInt8} {A' B' : List UInt8} (h : DSame A B) (ha : dec A' = put n x (dec A)) (hb : dec B' = put m x (dec B)) : DSame A' B' := by
 rcases h with ⟨y, h1, h2⟩ | ⟨⟨e, h1⟩, f, h2⟩
 ·exact .inl ⟨x ++ y, by rw [ha, h1]; rfl, by rw [hb, h2]; rfl⟩
 ·exact .inr ⟨⟨_, by rw [ha, h1]; rfl⟩, _, by rw [hb, h2]; rfl⟩
theorem DSame.refl (A : List UInt8) : DSame A A := by
 cases h : dec A with
 | ok y => exact .inl ⟨y, h, h⟩
 | error e => exact .inr ⟨⟨e, h⟩, e, h⟩
theorem dec_same (h : Tri c d1 d2) (v : List UInt8) : ∀ (n : Nat) (u : List UInt8), u.length <= n -> NoPct u -> DSame (u ++ c :: v) (u ++ 37 :: d1 :: d2 :: v)
 | _, [], _, _ => (DSame.refl v).put (dec_plain h.c37 v) (dec_tri h.t v)
 | 0, x :: u, hl, _ => by simp at hl
 | n + 1, x :: u, hl, hn => by
  rw [List.length_cons] at hl
  by_cases hx : x = 37
  ·subst hx
   obtain ⟨y, z, r, rfl⟩ := hn.two
   cases ht : tri y z with
   | none => exact .inr ⟨⟨_, dec_wrong ht _⟩, _, dec_wrong ht _⟩
   | some q => exact (dec_same h v n r (by simp at hl; omega) hn.tail.tail.tail).put (dec_tri ht _) (dec_tri ht _)
  ·exact (dec_same h v n u (by omega) hn.tail).put (dec_plain hx _) (dec_plain hx _)
theorem decB_same {A B : List UInt8} (h : DSame A B) : decB A = decB B := by
 unfold decB
 rcases h with ⟨y, h1, h2⟩ | ⟨⟨e, h1⟩, f, h2⟩
 ·rw [h1, h2]
 ·rw [h1, h2]
theorem cut_tri (h : Tri c d1 d2) (b : List UInt8) : ∀ a : List UInt8, NoPct a -> ∃ L1 u v L2, cutSl (a ++ c :: b) = L1 ++ (u ++ c :: v) :: L2 /\ cutSl (a ++ 37 :: d1 :: d2 :: b) = L1 ++ (u ++ 37 :: d1 :: d2 :: v) :: L2 /\ NoPct u /\ (L1 = [] -> u = a)
 | [], hn => by
  cases e : cutSl b with
  | nil => exact absurd e (cutSl_ne b)
  | cons v L2 =>
   refine ⟨[], [], v, L2, ?_, ?_, hn, fun _ => rfl⟩
   ·rw [List.nil_append, cutSl, if_neg h.c47, e]; rfl
   ·rw [List.nil_append, cutSl, if_neg (by decide), cutSl, if_neg h.s1, cutSl, if_neg h.s2, e]; rfl
 | x :: a, hn => by
  obtain ⟨L1, u, v, L2, e1, e2, e3, e4⟩ := cut_tri h b a hn.tail
  by_cases hx : x = 47
  ·refine ⟨[] :: L1, u, v, L2, ?_, ?_, e3, fun h9 => by cases h9⟩
   ·rw [List.cons_append, cutSl, if_pos hx, e1]; rfl
   ·rw [List.cons_append, cutSl, if_pos hx, e2]; rfl
  ·cases L1 with
   | nil =>
    have e5 := e4 rfl
    refine ⟨[], x :: u, v, L2, ?_, ?_, by rw [e5]; exact hn, fun _ => by rw [e5]⟩
    ·rw [List.cons_append, cutSl, if_neg hx, e1]; rfl
    ·rw [List.cons_append, cutSl, if_neg hx, e2]; rfl
   | cons y L1 =>
    refine ⟨(x :: y) :: L1, u, v, L2, ?_, ?_, e3, fun h9 => by cases h9⟩
    ·rw [List.cons_append, cutSl, if_neg hx, e1]; rfl
    ·rw [List.cons_append, cutSl, if_neg hx, e2]; rfl
theorem parse_tri (h : Tri c d1 d2) {a b : List UInt8} {p : List ByteArray × Bool} (hn : NoPct a) (hp : parseP (a ++ c :: b) = .ok p) : parseP (a ++ 37 :: d1 :: d2 :: b) = .ok p := by
 unfold parseP at hp
 by_cases h0 : (a ++ c :: b).head? = some 47
 ·rw [if_pos h0] at hp
  have ha : ∃ a', a = 47 :: a' := by
   cases a with
   | nil => exact absurd (by simpa using h0) h.c47
   | cons x a' => exact ⟨a', by rw [show x = 47 by simpa using h0]⟩
  obtain ⟨a', rfl⟩ := ha
  obtain ⟨L1, u, v, L2, e1, e2, e3, _⟩ := cut_tri h b a' hn.tail
  have r1 : rawL (47 :: a' ++ c :: b) = L1 ++ (u ++ c :: v) :: L2 := by
   rw [List.cons_append, rawL, if_pos rfl, e1]
  have r2 : rawL (47 :: a' ++ 37 :: d1 :: d2 :: b) = L1 ++ (u ++ 37 :: d1 :: d2 :: v) :: L2 := by
   rw [List.cons_append, rawL, if_pos rfl, e2]
  have hm : (rawL (47 :: a' ++ c :: b)).map decB = (rawL (47 :: a' ++ 37 :: d1 :: d2 :: b)).map decB := by
   rw [r1, r2, List.map_append, List.map_append, List.map_cons, List.map_cons, decB_same (dec_same h v u.length u (Nat.le_refl _) e3)]
  cases hs : shapeS 0 (47 :: a' ++ c :: b) with
  | some k => rw [hs] at hp; cases hp
  | none =>
   rw [hs] at hp
   simp only at hp
   cases hf : firstBad 1 (rawL (47 :: a' ++ c :: b)) with
   | some k => rw [hf] at hp; cases hp
   | none =>
    rw [hf] at hp
    simp only at hp
    have hf2 : firstBad 1 (rawL (47 :: a' ++ 37 :: d1 :: d2 :: b)) = none := by
     rw [firstBad_none] at hf ⊢
     intro x hx
     have hx2 : decB x ∈ (rawL (47 :: a' ++ 37 :: d1 :: d2 :: b)).map decB := List.mem_map_of_mem hx
     rw [<- hm] at hx2
     obtain ⟨y, hy, e⟩ := List.mem_map.1 hx2
     rw [<- e]
     exact hf y hy
    unfold parseP
    rw [if_pos (by rfl), shape_tri h b (47 :: a') 0 hn hs]
    simp only
    rw [hf2]
    simp only
    rw [<- hm]
    cases hc : cleanS 0 [] false ((rawL (47 :: a' ++ c :: b)).map decB) with
    | error k => rw [hc] at hp; cases hp
    | ok q => rw [hc] at hp; exact hp
 ·rw [if_neg h0] at hp; cases hp
end
def digL : ByteArray := ⟨#[48, 49, 50, 51, 52, 53, 54, 55, 56, 57, 97, 98, 99, 100, 101, 102]⟩
def digW (n : Nat) : UInt8 := digL.data.toList.getD n 0
theorem tri_low : ∀ n : Fin 256, tri (digW ((UInt8.ofNat n.val).toNat / 16)) (digW ((UInt8.ofNat n.val).toNat % 16)) = some (UInt8.ofNat n.val) := by decide +kernel
theorem digW_ok : ∀ n : Fin 16, pathB ((digW n.val).toNat : Int) = true /\ digW n.val ≠ 37 /\ digW n.val ≠ 47 := by decide +kernel
theorem tri_of (c : UInt8) (h : unresB (c.toNat : Int) = true) : Tri c (digW (c.toNat / 16)) (digW (c.toNat % 16)) := by
 have h1 := digW_ok ⟨c.toNat / 16, by have := c.toNat_lt; omega⟩
 have h2 := digW_ok ⟨c.toNat % 16, by omega⟩
 exact ⟨of_byte (p := fun c => tri (digW (c.toNat / 16)) (digW (c.toNat % 16)) = some c) tri_low c, h, h1.1, h1.2.1, h1.2.2, h2.1, h2.2.1, h2.2.2⟩
end Go.Proofs.YtjndnjnclmpidaaDoor
namespace Go.Proofs.YtjndnjnclmpidaaDoor
set_option linter.all false
open Go.RowKit
def goodB (c : UInt8) : Bool := decide (c = 47 \/ c = 37) || pathB (c.toNat : Int)
def endP (l : List UInt8) : Nat := match dec l with
 | .ok _ => l.length
 | .error n => n
def wrongP : Except Nat (List UInt8) -> Option Nat
 | .ok _ => none
 | .error n => some n
theorem hex_path : ∀ n : Fin 256, (hexV ((UInt8.ofNat n.val).toNat : Int)).isSome = true -> pathB ((UInt8.ofNat n.val).toNat : Int) = true /\ UInt8.ofNat n.val ≠ 37 := by decide +kernel
theorem tri_path {a b x : UInt8} (h : tri a b = some x) : (pathB (a.toNat : Int) = true /\ a ≠ 37) /\ (pathB (b.toNat : Int) = true /\ b ≠ 37) := by
 unfold tri at h
 have hp := of_byte (p := fun c => (hexV (c.toNat : Int)).isSome = true -> pathB (c.toNat : Int) = true /\ c ≠ 37) hex_path
 cases h1 : hexV (a.toNat : Int) with
 | none => rw [h1] at h; cases h
 | some u =>
  cases h2 : hexV (b.toNat : Int) with
  | none => rw [h1, h2] at h; cases h
  | some v => exact ⟨hp a (by rw [h1]; rfl), hp b (by rw [h2]; rfl)⟩
theorem good_path {c : UInt8} (h : pathB (c.toNat : Int) = true) : goodB c = true := by simp [goodB, h]
theorem end_plain {c : UInt8} (h : c ≠ 37) (t : List UInt8) : endP (c :: t) = endP t + 1 := by
 unfold endP
 rw [dec_plain h]
 cases dec t with
 | ok x => rfl
 | error n => show 1 + n = n + 1; omega
theorem end_tri {a b x : UInt8} (h : tri a b = some x) (t : List UInt8) : endP (37 :: a :: b :: t) = endP t + 3 := by
 unfold endP
 rw [dec_tri h]
 cases dec t with
 | ok x => rfl
 | error n => show 3 + n = n + 3; omega
theorem shape_tri_cons {a b x : UInt8} (h : tri a b = some x) (k : Nat) (t : List UInt8) : shapeS k (37 :: a :: b :: t) = shapeS (k + 3) t := by
 obtain ⟨h1, h2⟩ := tri_path h
 rw [shapeS.eq_def]
 simp only [h, Option.isSome_some, if_true]
 rw [shape_none_cons (.inr h1.1) h1.2, shape_none_cons (.inr h2.1) h2.2]
theorem shape_bad {c : UInt8} (h : goodB c = false) (k : Nat) (t : List UInt8) : shapeS k (c :: t) = some k := by
 unfold goodB at h
 simp only [Bool.or_eq_false_iff, decide_eq_false_iff_not, not_or] at h
 rw [shapeS.eq_def]
 simp only
 rw [if_neg h.1.2, if_neg]
 rintro (e | e)
 ·exact h.1.1 e
 ·rw [e] at h; cases h.2
theorem good_cons {c : UInt8} (h : goodB c = true) (h37 : c ≠ 37) (k : Nat) (t : List UInt8) : shapeS k (c :: t) = shapeS (k + 1) t := by
 refine shape_none_cons ?_ h37
 unfold goodB at h
 simp only [Bool.or_eq_true, decide_eq_true_eq] at h
 rcases h with (h | h) | h
 ·exact .inl h
 ·exact absurd h h37
 ·exact .inr h
theorem pct_cases (l : List UInt8) : l = [] \/ (∃ c t, l = c :: t /\ c ≠ 37) \/ (∃ a b x t, l = 37 :: a :: b :: t /\ tri a b = some x) \/ (∃ t, l = 37 :: t /\ dec l = .error 0 /\ ∀ k, shapeS k l = some k) := by
 rcases l with _ | ⟨c, t⟩
 ·exact .inl rfl
 ·by_cases hc : c = 37
  ·subst hc
   rcases t with _ | ⟨a, _ | ⟨b, r⟩⟩
   ·exact .inr (.inr (.inr ⟨_, rfl, dec_short (by decide), fun k => by rw [shapeS.eq_def]; rfl⟩))
   ·exact .inr (.inr (.inr ⟨_, rfl, dec_short (by simp), fun k => by rw [shapeS.eq_def]; rfl⟩))
   ·cases h : tri a b with
    | some x => exact .inr (.inr (.inl ⟨a, b, x, r, rfl, h⟩))
    | none => exact .inr (.inr (.inr ⟨_, rfl, dec_wrong h r, fun k => by rw [shapeS.eq_def]; simp [h]⟩))
  ·exact .inr (.inl ⟨c, t, rfl, hc⟩)
theorem shape_at : ∀ (n : Nat) (l : List UInt8) (k i : Nat), l.length <= n -> i < endP l -> (∀ j, j < i -> ∀ c, l[j]? = some c -> goodB c = true) -> (∀ c, l[i]? = some c -> goodB c = false) -> shapeS k l = some (k + i)
 | n, l, k, i, hn, hi, hg, hb => by
  rcases pct_cases l with rfl | ⟨c, t, rfl, hc⟩ | ⟨a, b, x, t, rfl, h⟩ | ⟨t, rfl, h, h2⟩
  ·exact absurd hi (Nat.not_lt_zero _)
  ·obtain _ | n := n
   ·simp at hn
   obtain _ | i := i
   ·exact shape_bad (hb c rfl) k t
   ·rw [end_plain hc] at hi
    rw [good_cons (hg 0 (by omega) c rfl) hc, shape_at n t (k + 1) i (by simpa using hn) (by omega) (fun j hj c h => hg (j + 1) (by omega) c (by simpa using h)) (fun c h => hb c (by simpa using h))]
    congr 1; omega
  ·obtain ⟨h1, h2⟩ := tri_path h
   obtain _ | n := n
   ·simp at hn
   match i, hi, hg, hb with
   | 0, hi, hg, hb => exact absurd (hb 37 rfl) (by decide)
   | 1, hi, hg, hb => exact absurd (hb a rfl) (by rw [good_path h1.1]; decide)
   | 2, hi, hg, hb => exact absurd (hb b rfl) (by rw [good_path h2.1]; decide)
   | i + 3, hi, hg, hb =>
    rw [end_tri h] at hi
    rw [shape_tri_cons h, shape_at n t (k + 3) i (by simp at hn; omega) (by omega) (fun j hj c h => hg (j + 3) (by omega) c (by simpa using h)) (fun c h => hb c (by simpa using h))]
    congr 1; omega
  ·unfold endP at hi
   rw [h] at hi
   exact absurd hi (Nat.not_lt_zero _)
theorem shape_all : ∀ (n : Nat) (l : List UInt8) (k : Nat), l.length <= n -> (∀ j, j < endP l -> ∀ c, l[j]? = some c -> goodB c = true) -> shapeS k l = (wrongP (dec l)).map (k + ·)
 | n, l, k, hn, hg => by
  rcases pct_cases l with rfl | ⟨c, t, rfl, hc⟩ | ⟨a, b, x, t, rfl, h⟩ | ⟨t, rfl, h, h2⟩
  ·rfl
  ·obtain _ | n := n
   ·simp at hn
   rw [end_plain hc] at hg
   rw [good_cons (hg 0 (by omega) c rfl) hc, shape_all n t (k + 1) (by simpa using hn) (fun j hj c h => hg (j + 1) (by omega) c (by simpa using h)), dec_plain hc]
   cases dec t with
   | ok x => rfl
   | error n => show some (k + 1 + n) = some (k + (1 + n)); congr 1; omega
  ·obtain _ | n := n
   ·simp at hn
   rw [end_tri h] at hg
   rw [shape_tri_cons h, shape_all n t (k + 3) (by simp at hn; omega) (fun j hj c h => hg (j + 3) (by omega) c (by simpa using h)), dec_tri h]
   cases dec t with
   | ok x => rfl
   | error n => show some (k + 3 + n) = some (k + (3 + n)); congr 1; omega
  ·rw [h2, h]; rfl
theorem end_le : ∀ (n : Nat) (l : List UInt8), l.length <= n -> endP l <= l.length
 | n, l, hn => by
  rcases pct_cases l with rfl | ⟨c, t, rfl, hc⟩ | ⟨a, b, x, t, rfl, h⟩ | ⟨t, rfl, h, h2⟩
  ·exact Nat.le_refl _
  ·obtain _ | n := n
   ·simp at hn
   rw [end_plain hc]
   have := end_le n t (by simpa using hn)
   simpa using this
  ·obtain _ | n := n
   ·simp at hn
   rw [end_tri h]
   have := end_le n t (by simp at hn; omega)
   simp; omega
  ·unfold endP; rw [h]; exact Nat.zero_le _
def dB (x : ByteArray) : ByteArray := decB x.data.toList
def goodG : List ByteArray -> List ByteArray
 | [] => []
 | x :: r => if badS (dB x) then [] else dB x :: goodG r
theorem goodG_len : ∀ L, (goodG L).length <= L.length
 | [] => Nat.le_refl _
 | x :: r => by
  have := goodG_len r
  unfold goodG
  split
  ·simp
  ·simpa using this
theorem goodG_all : ∀ L, (goodG L).length = L.length -> goodG L = L.map dB
 | [], _ => rfl
 | x :: r, h => by
  unfold goodG at h ⊢
  split
  ·next hb => rw [if_pos hb] at h; cases h
  ·next hb =>
   rw [if_neg hb] at h
   rw [goodG_all r (by simpa using h)]; rfl
def offB : Nat -> List ByteArray -> Nat -> Nat
 | n, _, 0 => n
 | n, [], _ + 1 => n
 | n, x :: r, k + 1 => offB (n + x.size + 1) r k
theorem offB_snoc : ∀ (L : List ByteArray) (n k : Nat) (h : k < L.length), offB n L (k + 1) = offB n L k + L[k].size + 1
 | x :: r, n, 0, _ => by
  show offB (n + x.size + 1) r 0 = _
  cases r <;> rfl
 | x :: r, n, k + 1, h => by
  exact offB_snoc r (n + x.size + 1) k (by simpa using h)
theorem offB_offs : ∀ (L : List ByteArray) (n k : Nat), k < L.length -> (offs n (L.map fun x => x.data.toList)).getD k 0 = offB n L k
 | x :: r, n, 0, _ => rfl
 | x :: r, n, k + 1, h => by
  show (offs (n + x.data.toList.length + 1) _).getD k 0 = offB (n + x.size + 1) r k
  rw [show x.data.toList.length = x.size by simp]
  exact offB_offs r _ k (by simpa using h)
theorem offB_le : ∀ (L : List ByteArray) (n k m : Nat), (∀ x ∈ L, x.size <= m) -> offB n L k <= n + k * (m + 1)
 | L, n, 0, m, _ => by cases L <;> simp [offB]
 | [], n, k + 1, m, _ => by simp [offB]
 | x :: r, n, k + 1, m, h => by
  show offB (n + x.size + 1) r k <= _
  have h1 := offB_le r (n + x.size + 1) k m fun y hy => h y (by simp [hy])
  have h2 := h x (by simp)
  rw [Nat.succ_mul]
  omega
theorem firstBad_good : ∀ (L : List ByteArray) (n : Nat), firstBad n (L.map fun x => x.data.toList) = if (goodG L).length < L.length then some (offB n L (goodG L).length) else none
 | [], n => rfl
 | x :: r, n => by
  have e1 : firstBad n ((x :: r).map fun x => x.data.toList) = if badS (dB x) = true then some n else firstBad (n + x.data.toList.length + 1) (r.map fun x => x.data.toList) := rfl
  have e2 : goodG (x :: r) = if badS (dB x) = true then [] else dB x :: goodG r := rfl
  have e3 : x.data.toList.length = x.size := by simp
  rw [e1, e2, e3]
  cases hb : badS (dB x)
  ·simp only [Bool.false_eq_true, if_false, List.length_cons, Nat.add_lt_add_iff_right]
   rw [firstBad_good r]
   rfl
  ·simp [offB]
def rawS (s : ByteArray) : List ByteArray := (rawL s.data.toList).map fun x => ⟨x.toArray⟩
theorem rawS_list (s : ByteArray) : (rawS s).map (fun x => x.data.toList) = rawL s.data.toList := by
 unfold rawS
 rw [List.map_map]
 rw [show ((fun x : ByteArray => x.data.toList) ∘ fun x : List UInt8 => (⟨x.toArray⟩ : ByteArray)) = id from funext fun x => by simp]
 simp
theorem rawS_len (s : ByteArray) : (rawS s).length = (rawL s.data.toList).length := by simp [rawS]
theorem rawS_dB (s : ByteArray) : (rawS s).map dB = (rawL s.data.toList).map decB := by
 rw [<- rawS_list, List.map_map]; rfl
theorem cutSl_size : ∀ (l : List UInt8), ∀ x ∈ cutSl l, x.length <= l.length
 | [], x, h => by simp [cutSl] at h; simp [h]
 | c :: l, x, h => by
  have ih := cutSl_size l
  unfold cutSl at h
  by_cases hc : c = 47
  ·rw [if_pos hc] at h
   rcases List.mem_cons.1 h with rfl | h
   ·simp
   ·have := ih x h; simp; omega
  ·rw [if_neg hc] at h
   cases e : cutSl l with
   | nil => exact absurd e (cutSl_ne l)
   | cons y r =>
    rw [e] at h ih
    rcases List.mem_cons.1 h with rfl | h
    ·have := ih y (by simp); simpa using this
    ·have := ih x (by simp [h]); simp; omega
theorem rawS_size (s : ByteArray) : ∀ x ∈ rawS s, x.size <= s.size := by
 intro x hx
 obtain ⟨y, hy, rfl⟩ := List.mem_map.1 hx
 have h1 : (⟨y.toArray⟩ : ByteArray).size = y.length := by show y.toArray.size = _; simp
 have h2 : s.size = s.data.toList.length := by simp
 rw [h1, h2]
 cases h : s.data.toList with
 | nil => rw [h] at hy; cases hy
 | cons c l =>
  rw [h] at hy
  by_cases hc : c = 47
  ·rw [rawL, if_pos hc] at hy
   have := cutSl_size l y hy; simp; omega
  ·rw [rawL, if_neg hc] at hy; cases hy
theorem rawS_most (s : ByteArray) : (rawS s).length <= s.size := by
 rw [rawS_len]
 have h2 : s.size = s.data.toList.length := by simp
 rw [h2]
 cases h : s.data.toList with
 | nil => exact Nat.le_refl _
 | cons c l =>
  by_cases hc : c = 47
  ·subst hc
   rw [rawL_len rfl]
   exact List.count_le_length
  ·rw [rawL, if_neg hc]; exact Nat.zero_le _
theorem clean_lt : ∀ (r : List ByteArray) (k : Nat) (acc : List ByteArray) (dir : Bool) (j : Nat), cleanS k acc dir r = .error j -> j < k + r.length
 | [], k, acc, dir, j, h => by cases h
 | s :: r, k, acc, dir, j, h => by
  unfold cleanS at h
  rw [List.length_cons]
  split at h
  ·split at h
   ·injection h with h; omega
   ·have := clean_lt r _ _ _ j h; omega
  ·split at h
   ·have := clean_lt r _ _ _ j h; omega
   ·split at h
    ·split at h
     ·cases h
     ·have := clean_lt r _ _ _ j h; omega
    ·have := clean_lt r _ _ _ j h; omega
section
variable {L : List ByteArray} {k : Nat} (h : k < L.length) (acc : List ByteArray) (d : Bool)
include h
theorem clean_up0 (hs : L[k] = sUp) : cleanS k [] d (L.drop k) = .error k := by
 rw [List.drop_eq_getElem_cons h, cleanS, if_pos hs, if_pos rfl]
theorem clean_up (hs : L[k] = sUp) (ha : acc ≠ []) : cleanS k acc d (L.drop k) = cleanS (k + 1) acc.dropLast true (L.drop (k + 1)) := by
 rw [List.drop_eq_getElem_cons h, cleanS, if_pos hs, if_neg ha]
theorem clean_dot (hs : L[k] = sDot) : cleanS k acc d (L.drop k) = cleanS (k + 1) acc true (L.drop (k + 1)) := by
 rw [List.drop_eq_getElem_cons h, cleanS, hs, if_neg (by decide), if_pos rfl]
theorem clean_nil (hs : L[k] = sNil) (hl : L.length = k + 1) : cleanS k acc d (L.drop k) = cleanS (k + 1) acc true (L.drop (k + 1)) := by
 have e : L.drop (k + 1) = [] := List.drop_eq_nil_of_le (by omega)
 rw [List.drop_eq_getElem_cons h, cleanS, hs, if_neg (by decide), if_neg (by decide), if_pos rfl, if_pos e, e]
 rfl
theorem clean_put (h1 : L[k] ≠ sUp) (h2 : L[k] ≠ sDot) (h3 : L[k] ≠ sNil \/ k + 1 < L.length) : cleanS k acc d (L.drop k) = cleanS (k + 1) (acc ++ [L[k]]) (decide (L[k] = sNil)) (L.drop (k + 1)) := by
 rw [List.drop_eq_getElem_cons h, cleanS, if_neg h1, if_neg h2]
 by_cases hn : L[k] = sNil
 ·have e : L.drop (k + 1) ≠ [] := by
   rcases h3 with h3 | h3
   ·exact absurd hn h3
   ·intro e
    have := congrArg List.length e
    simp at this; omega
  rw [if_pos hn, if_neg e, decide_eq_true hn]
 ·rw [if_neg hn, decide_eq_false hn]
theorem goodG_bad (hb : badS (dB L[k]) = true) : goodG (L.drop k) = [] := by
 rw [List.drop_eq_getElem_cons h, goodG, if_pos hb]
theorem goodG_put (hb : badS (dB L[k]) = false) : goodG (L.drop k) = dB L[k] :: goodG (L.drop (k + 1)) := by
 rw [List.drop_eq_getElem_cons h, goodG, if_neg (by rw [hb]; decide)]
end
theorem clean_end (L : List ByteArray) (acc : List ByteArray) (d : Bool) : cleanS L.length acc d (L.drop L.length) = .ok (acc, d) := by
 rw [List.drop_length]; rfl
theorem goodG_end (L : List ByteArray) : goodG (L.drop L.length) = [] := by
 rw [List.drop_length]; rfl
theorem mem_at {t : ByteArray} {j : Nat} (hj : j < t.size) : t[j] ∈ t.data.toList := by
 rw [show t[j] = t.data.toList[j]'(by simpa using hj) from rfl]
 exact List.getElem_mem _
theorem memB_iff (c : UInt8) (l : List UInt8) : memB (c.toNat : Int) l = true ↔ c ∈ l := by
 unfold memB
 rw [List.any_eq_true]
 constructor
 ·rintro ⟨b, hb, h⟩
  have h : b = c := by
   have h := of_decide_eq_true h
   exact UInt8.toNat_inj.1 (by omega)
  rwa [<- h]
 ·exact fun h => ⟨c, h, by simp⟩
theorem badS_iff (t : ByteArray) : badS t = true ↔ ((47 : UInt8) ∈ t.data.toList \/ (92 : UInt8) ∈ t.data.toList \/ (0 : UInt8) ∈ t.data.toList) := by
 unfold badS
 rw [Bool.or_eq_true, Bool.or_eq_true, <- memB_iff, <- memB_iff, <- memB_iff]
 rfl
theorem badS_at {t : ByteArray} {j : Nat} (hj : j < t.size) (h : t[j] = 47 \/ t[j] = 92 \/ t[j] = 0) : badS t = true := by
 have hm := mem_at hj
 rw [badS_iff]
 rcases h with h | h | h
 ·rw [h] at hm; exact .inl hm
 ·rw [h] at hm; exact .inr (.inl hm)
 ·rw [h] at hm; exact .inr (.inr hm)
theorem badS_no {t : ByteArray} (h : ∀ j, (hj : j < t.size) -> t[j] ≠ 47 /\ t[j] ≠ 92 /\ t[j] ≠ 0) : badS t = false := by
 cases hb : badS t with
 | false => rfl
 | true =>
  exfalso
  rw [badS_iff] at hb
  have key : ∀ c : UInt8, c ∈ t.data.toList -> ∃ j, ∃ hj : j < t.size, t[j] = c := fun c hc => by
   obtain ⟨j, hj, e⟩ := List.mem_iff_getElem.1 hc
   exact ⟨j, by simpa using hj, e⟩
  rcases hb with hb | hb | hb
  ·obtain ⟨j, hj, e⟩ := key _ hb; exact (h j hj).1 e
  ·obtain ⟨j, hj, e⟩ := key _ hb; exact (h j hj).2.1 e
  ·obtain ⟨j, hj, e⟩ := key _ hb; exact (h j hj).2.2 e
theorem indexS_at (a r : List UInt8) (h : (47 : UInt8) ∉ a) : Lib.index (a ++ 47 :: r) [47] = (a.length : Int) := by
 induction a with
 | nil => simp [Lib.index, List.isPrefixOf]
 | cons b a ih =>
  have hb : ((47 : UInt8) == b) = false := by simp only [beq_eq_false_iff_ne]; intro e; exact h (by simp [e])
  have := ih (fun m => h (by simp [m]))
  rw [List.cons_append, Lib.index, this]
  have h1 : ((a.length : Int) == -1) = false := by rw [beq_eq_false_iff_ne]; omega
  simp [List.isPrefixOf, hb, h1]
theorem indexS_not (a : List UInt8) (h : (47 : UInt8) ∉ a) : Lib.index a [47] = -1 := by
 induction a with
 | nil => simp [Lib.index]
 | cons b a ih =>
  have hb : ((47 : UInt8) == b) = false := by simp only [beq_eq_false_iff_ne]; intro e; exact h (by simp [e])
  have := ih (fun m => h (by simp [m]))
  rw [Lib.index, this]
  simp [List.isPrefixOf, hb]
theorem splitK_cut : ∀ (k : Nat) (l : List UInt8), l.count 47 <= k -> Lib.splitK [47] 0 k l = cutSl l
 | 0, l, h => by
  have h0 : (47 : UInt8) ∉ l := List.count_eq_zero.1 (by omega)
  rw [cutSl_one l h0]; rfl
 | k + 1, l, h => by
  by_cases hm : (47 : UInt8) ∈ l
  ·obtain ⟨a, b, rfl, ha⟩ := List.eq_append_cons_of_mem hm
   have hc : b.count 47 <= k := by
    rw [List.count_append, List.count_cons_self] at h; omega
   have h1 : ((a.length : Int) == -1) = false := by rw [beq_eq_false_iff_ne]; omega
   rw [Lib.splitK, indexS_at a b ha, h1, cutSl_app a b ha, <- splitK_cut k b hc]
   simp
  ·rw [Lib.splitK, indexS_not l hm, cutSl_one l hm]; rfl
def slS : ByteArray := ⟨#[47]⟩
theorem splitB_raw (t : ByteArray) (k : Nat) (h : t.data.toList.count 47 <= k) : Lib.splitB slS 0 k t = (cutSl t.data.toList).map fun x => ⟨x.toArray⟩ := by
 have e := Lib.splitB_data slS 0 k t
 rw [show slS.data.toList = [47] from rfl, splitK_cut k _ h] at e
 rw [<- e, List.map_map]
 rw [show ((fun x : List UInt8 => (⟨x.toArray⟩ : ByteArray)) ∘ fun x : ByteArray => x.data.toList) = id from funext fun x => by simp]
 simp
theorem rawS_cons {s t : ByteArray} (h : s.data.toList = 47 :: t.data.toList) : rawS s = (cutSl t.data.toList).map fun x => ⟨x.toArray⟩ := by
 unfold rawS
 rw [h]; rfl
theorem rawS_none {s : ByteArray} (h : s.data.toList.head? ≠ some 47) : rawS s = [] := by
 unfold rawS
 cases e : s.data.toList with
 | nil => rfl
 | cons c l =>
  rw [rawL, if_neg (by rintro rfl; rw [e] at h; exact h rfl)]
  rfl
theorem parseP_walk (s : ByteArray) : parseP s.data.toList = if s.data.toList.head? = some 47 then match shapeS 0 s.data.toList with
  | some k => .error k
  | none => if (goodG (rawS s)).length < (rawS s).length then .error (offB 1 (rawS s) (goodG (rawS s)).length) else match cleanS 0 [] false (goodG (rawS s)) with
   | .error k => .error (offB 1 (rawS s) k)
   | .ok p => .ok p
 else .error 0 := by
 unfold parseP
 split
 ·cases shapeS 0 s.data.toList with
  | some k => rfl
  | none =>
   simp only
   rw [<- rawS_dB, <- rawS_list, firstBad_good]
   by_cases h : (goodG (rawS s)).length < (rawS s).length
   ·rw [if_pos h, if_pos h]
   ·rw [if_neg h, if_neg h]
    simp only
    have hl := goodG_len (rawS s)
    rw [goodG_all (rawS s) (by omega)]
    cases hc : cleanS 0 [] false ((rawS s).map dB) with
    | ok p => rfl
    | error k =>
     simp only
     have hk : k < (rawS s).length := by
      have := clean_lt _ _ _ _ _ hc
      simpa using this
     rw [offB_offs _ _ _ hk]
 ·rfl
end Go.Proofs.YtjndnjnclmpidaaDoor
namespace Go.Proofs.YtjndnjnclmpidaaDoor
set_option linter.all false
open Go.RowKit
theorem cutSl_snoc_sl : ∀ l : List UInt8, cutSl (l ++ [47]) = cutSl l ++ [[]]
 | [] => rfl
 | c :: l => by
  have ih := cutSl_snoc_sl l
  rw [List.cons_append]
  unfold cutSl
  by_cases hc : c = 47
  ·rw [if_pos hc, if_pos hc, ih]; rfl
  ·rw [if_neg hc, if_neg hc, ih]
   cases e : cutSl l with
   | nil => exact absurd e (cutSl_ne l)
   | cons x r => rfl
theorem cutSl_snoc {c : UInt8} (h : c ≠ 47) : ∀ l : List UInt8, ∃ A x, cutSl l = A ++ [x] /\ cutSl (l ++ [c]) = A ++ [x ++ [c]]
 | [] => ⟨[], [], rfl, by
   rw [List.nil_append, cutSl, if_neg h]; rfl⟩
 | d :: l => by
  obtain ⟨A, x, e1, e2⟩ := cutSl_snoc h l
  rw [List.cons_append]
  by_cases hd : d = 47
  ·refine ⟨[] :: A, x, ?_, ?_⟩
   ·rw [cutSl, if_pos hd, e1]; rfl
   ·rw [cutSl, if_pos hd, e2]; rfl
  ·cases A with
   | nil =>
    refine ⟨[], d :: x, ?_, ?_⟩
    ·rw [cutSl, if_neg hd, e1]; rfl
    ·rw [cutSl, if_neg hd, e2]; rfl
   | cons y A =>
    refine ⟨(d :: y) :: A, x, ?_, ?_⟩
    ·rw [cutSl, if_neg hd, e1]; rfl
    ·rw [cutSl, if_neg hd, e2]; rfl
def rawT (s : ByteArray) (k : Nat) : List ByteArray := (rawL (s.data.toList.take k)).map fun x => ⟨x.toArray⟩
theorem rawT_all (s : ByteArray) : rawT s s.size = rawS s := by
 unfold rawT rawS
 rw [List.take_of_length_le (by simp)]
theorem take_head {s : ByteArray} {k : Nat} (h0 : 0 < s.size) (h : s[0] = 47) (hk : 0 < k) : ∃ l, s.data.toList.take k = 47 :: l := by
 have e : s.data.toList = s[0] :: s.data.toList.drop 1 := by simpa using drop_at s 0 h0
 rw [e, h]
 obtain ⟨k, rfl⟩ : ∃ j, k = j + 1 := ⟨k - 1, by omega⟩
 exact ⟨_, rfl⟩
theorem rawT_sl {s : ByteArray} {k : Nat} (hk : k < s.size) (h0 : 0 < s.size) (h : s[0] = 47) (hs : s[k] = 47) : rawT s (k + 1) = rawT s k ++ [sNil] := by
 unfold rawT
 rw [take_snoc s k hk, hs]
 rcases Nat.eq_zero_or_pos k with rfl | hp
 ·rfl
 ·obtain ⟨l, e⟩ := take_head h0 h hp
  rw [e, List.cons_append, rawL, if_pos rfl, rawL, if_pos rfl, cutSl_snoc_sl, List.map_append]
  rfl
theorem rawT_put {s : ByteArray} {k : Nat} (hk : k < s.size) (h0 : 0 < s.size) (h : s[0] = 47) (hs : s[k] ≠ 47) : ∃ A x, rawT s k = A ++ [x] /\ rawT s (k + 1) = A ++ [x ++ ⟨#[s[k]]⟩] := by
 have hp : 0 < k := by
  rcases Nat.eq_zero_or_pos k with rfl | hp
  ·exact absurd h hs
  ·exact hp
 obtain ⟨l, e⟩ := take_head h0 h hp
 obtain ⟨A, x, e1, e2⟩ := cutSl_snoc hs l
 refine ⟨A.map fun x => ⟨x.toArray⟩, ⟨x.toArray⟩, ?_, ?_⟩
 ·unfold rawT
  rw [e, rawL, if_pos rfl, e1, List.map_append]; rfl
 ·unfold rawT
  rw [take_snoc s k hk, e, List.cons_append, rawL, if_pos rfl, e2, List.map_append]
  have e3 : (⟨(x ++ [s[k]]).toArray⟩ : ByteArray) = (⟨x.toArray⟩ : ByteArray) ++ ⟨#[s[k]]⟩ := by
   apply ByteArray.ext
   simp
  rw [<- e3]; rfl
theorem rawT_size (s : ByteArray) (k : Nat) : ∀ x ∈ rawT s k, x.size <= s.size := by
 have e : rawT s k = rawS ⟨(s.data.toList.take k).toArray⟩ := by unfold rawT rawS; simp
 intro x hx
 rw [e] at hx
 refine Nat.le_trans (rawS_size _ x hx) ?_
 show (s.data.toList.take k).toArray.size <= s.size
 simp
 have : s.size = s.data.size := rfl
 omega
theorem rawT_most (s : ByteArray) (k : Nat) : (rawT s k).length <= s.size := by
 have e : rawT s k = rawS ⟨(s.data.toList.take k).toArray⟩ := by unfold rawT rawS; simp
 rw [e]
 refine Nat.le_trans (rawS_most _) ?_
 show (s.data.toList.take k).toArray.size <= s.size
 simp
 have : s.size = s.data.size := rfl
 omega
section
variable {s : ByteArray} {k : Nat} (h : k < s.size)
include h
theorem shape_drop_bad (hb : goodB s[k] = false) : shapeS k (s.data.toList.drop k) = some k := by
 rw [drop_at s k h, shape_bad hb]
theorem shape_drop_good (hg : goodB s[k] = true) (h37 : s[k] ≠ 37) : shapeS k (s.data.toList.drop k) = shapeS (k + 1) (s.data.toList.drop (k + 1)) := by
 rw [drop_at s k h, good_cons hg h37]
theorem shape_drop_short (h37 : s[k] = 37) (hs : s.size <= k + 2) : shapeS k (s.data.toList.drop k) = some k := by
 rw [drop_at s k h, h37]
 have hl : (s.data.toList.drop (k + 1)).length < 2 := by simp; omega
 generalize s.data.toList.drop (k + 1) = t at hl
 rcases t with _ | ⟨a, _ | ⟨b, r⟩⟩
 ·rw [shapeS.eq_def]; rfl
 ·rw [shapeS.eq_def]; rfl
 ·simp at hl; omega
end
theorem shape_drop_wrong {s : ByteArray} {k : Nat} (h : k + 2 < s.size) (h37 : s[k] = 37) (ht : tri s[k + 1] s[k + 2] = none) : shapeS k (s.data.toList.drop k) = some k := by
 rw [drop_at s k (by omega), drop_at s (k + 1) (by omega), drop_at s (k + 2) (by omega), h37, shapeS.eq_def]
 simp [ht]
theorem shape_drop_tri {s : ByteArray} {k : Nat} {x : UInt8} (h : k + 2 < s.size) (h37 : s[k] = 37) (ht : tri s[k + 1] s[k + 2] = some x) : shapeS k (s.data.toList.drop k) = shapeS (k + 1) (s.data.toList.drop (k + 1)) := by
 rw [drop_at s k (by omega), drop_at s (k + 1) (by omega), drop_at s (k + 2) (by omega), h37, shapeS.eq_def]
 simp [ht]
theorem shape_drop_end (s : ByteArray) : shapeS s.size (s.data.toList.drop s.size) = none := by
 rw [List.drop_eq_nil_of_le (by simp)]; rfl
theorem head_at {s : ByteArray} (h0 : 0 < s.size) : s.data.toList.head? = some s[0] := by
 have e : s.data.toList = s[0] :: s.data.toList.drop 1 := by simpa using drop_at s 0 h0
 rw [e]; rfl
theorem head_none {s : ByteArray} (h0 : ¬ 0 < s.size) : s.data.toList.head? = none := by
 have : s.data.toList = [] := List.length_eq_zero_iff.1 (by have : s.size = s.data.size := rfl; rw [Array.length_toList]; omega)
 rw [this]; rfl
end Go.Proofs.YtjndnjnclmpidaaDoor
