/- Texts of one seat, merged: OctA, OctB, OctC, OctD, OctE, OctM, OctF, OctG, Byt. -/
import Derived.Test.YtadocpoejbnhpaaDoorProg
import Derived.WalkKit
import Derived.Outline
import Derived.Lib.Hide
import Derived.Deep.Light
import Derived.Deep.QuietTactic
import Derived.BigQuiet
import Derived.Defers
import Derived.Recover
import Derived.Laws.Pointers
import Derived.Below
import Derived.Laws.IdiomStrings
import Derived.Deep.MidRow
import Derived.Laws.AppendOwn
import Derived.Laws.MakeOwn
import Derived.Laws.AppendOwnNone
import Derived.Deep.OwnRows
import Derived.OneCell
import Derived.Lib.BufferWrite
namespace Go.Proofs.YtadocpoejbnhpaaDoor
set_option linter.all false
open Go.RowKit
def Says (b : Bool) (w : World) (e : Ending) (w' : World) : Prop := e = .returned (.bool b) /\ w = w'
theorem says_of {a b : Bool} (w : World) (h : a = b) : Says b w (.returned (.bool a)) w := ⟨by rw [h], rfl⟩
def letterB (z : Int) : Bool := decide (65 <= z /\ z <= 90 \/ 97 <= z /\ z <= 122)
def digitB (z : Int) : Bool := decide (48 <= z /\ z <= 57)
def unresB (z : Int) : Bool := decide (65 <= z /\ z <= 90 \/ 97 <= z /\ z <= 122 \/ 48 <= z /\ z <= 57 \/ z = 45 \/ z = 46 \/ z = 95 \/ z = 126)
def pathB (z : Int) : Bool := unresB z || decide (z = 33 \/ z = 36 \/ z = 38 \/ z = 39 \/ z = 40 \/ z = 41 \/ z = 42 \/ z = 43 \/ z = 44 \/ z = 59 \/ z = 61 \/ z = 58 \/ z = 64)
def fieldB (z : Int) : Bool := decide (z = 9 \/ 32 <= z /\ z ≠ 127)
def hexV (z : Int) : Option Int := if 48 <= z /\ z <= 57 then some (z - 48) else if 97 <= z /\ z <= 102 then some (z - 87) else if 65 <= z /\ z <= 70 then some (z - 55) else none
theorem letter_any (z : Int) (w : World) : Calls Tryd.prog 64 #[.int .u8 z] w (Says (letterB z) w) := by
  go_enter Tryd.func64, Tryd.ntmps64
  go_wp2
  all_goals
    go_ret
    exact says_of w (by rw [Bool.eq_iff_iff]; simp [letterB]; omega)
theorem digit_any (z : Int) (w : World) : Calls Tryd.prog 57 #[.int .u8 z] w (Says (digitB z) w) := by
  go_enter Tryd.func57, Tryd.ntmps57
  go_wp2
  all_goals
    go_ret
    exact says_of w (by rw [Bool.eq_iff_iff]; simp [digitB]; omega)
def SaysHex (o : Option Int) (w : World) (e : Ending) (w' : World) : Prop := e = .returned (.tuple #[.int .i64 (o.getD 0), .bool o.isSome]) /\ w = w'
theorem saysHex_of {a : Int} {b : Bool} {o : Option Int} (w : World) (h : a = o.getD 0) (h' : b = o.isSome) : SaysHex o w (.returned (.tuple #[.int .i64 a, .bool b])) w := ⟨by rw [h, h'], rfl⟩
set_option maxRecDepth 100000 in
theorem hex_any (z : Int) (w : World) (h0 : 0 <= z) (h1 : z <= 255) : Calls Tryd.prog 65 #[.int .u8 z] w (SaysHex (hexV z) w) := by
  go_enter Tryd.func65, Tryd.ntmps65
  go_wp2_with fail
  refine (digit_any _ _).mono ?_
  rintro e w' ⟨rfl, rfl⟩
  by_cases hd : digitB z = true
  all_goals
    go_wp2
    all_goals
      go_ret2
      exact saysHex_of w (by go_light; simp [digitB] at *; unfold hexV; (repeat' split) <;> simp <;> omega) (by go_light; simp [digitB] at *; unfold hexV; (repeat' split) <;> simp <;> omega)
end Go.Proofs.YtadocpoejbnhpaaDoor
namespace Go.Proofs.YtadocpoejbnhpaaDoor
set_option linter.all false
open Go.RowKit
def memB (z : Int) (l : List UInt8) : Bool := l.any fun b => decide ((b.toNat : Int) = z)
theorem take_snoc (s : ByteArray) (k : Nat) (h : k < s.size) : s.data.toList.take (k + 1) = s.data.toList.take k ++ [s[k]] := by
  rw [List.take_succ_eq_append_getElem (by simpa using h)]; rfl
theorem memB_snoc (z : Int) (s : ByteArray) (k : Nat) (h : k < s.size) : memB z (s.data.toList.take (k + 1)) = (memB z (s.data.toList.take k) || decide ((s[k].toNat : Int) = z)) := by
  rw [take_snoc s k h]; simp [memB]
theorem memB_yes (z : Int) (s : ByteArray) (k : Nat) (h : k < s.size) (he : (s[k].toNat : Int) = z) : memB z s.data.toList = true := by
  unfold memB
  rw [List.any_eq_true]
  exact ⟨s[k], by rw [show s[k] = s.data[k] from rfl]; simp, by simpa using he⟩
theorem memB_no (z : Int) (s : ByteArray) (k : Nat) (h : s.size <= k) (he : memB z (s.data.toList.take k) = false) : memB z s.data.toList = false := by
  rwa [List.take_of_length_le (by simpa using h)] at he
set_option maxRecDepth 100000 in
theorem in_any (z : Int) (s : ByteArray) (w : World) (hs : s.size <= 9223372036854775807) : Calls Tryd.prog 35 #[.int .u8 z, .string s] w (Says (memB z s.data.toList) w) := by
  go_enter Tryd.func35, Tryd.ntmps35
  go_wp2
  go_loop [5] (fun i => ∃ k : Nat, k <= s.size /\ i = .int .i64 k /\ memB z (s.data.toList.take k) = false) (fun i => s.size - (intOf i).toNat)
  case atStart => exact ⟨0, Nat.zero_le _, rfl, rfl⟩
  case round =>
    obtain ⟨k, hk, rfl, hm⟩ := hrel
    have Hm := Lib.hid hm
    clear hm
    by_cases hlt : k < s.size
    · have Hs := Lib.hid (memB_snoc z s k hlt)
      have Hy := Lib.hid (memB_yes z s k hlt)
      go_wp2
      · go_ret
        exact says_of w (by go_light; simp at *; rw [Hy.out (by assumption)])
      · go_round
        case rel => exact ⟨k + 1, by omega, by go_num, by rw [Hs.out, Hm.out]; go_light; simp at *; assumption⟩
        case measure => simp [intOf]; omega
    · go_wp2
      go_ret
      exact says_of w (memB_no z s k (by omega) Hm.out).symm
abbrev textLetters : ByteArray := ⟨#[65, 66, 67, 68, 69, 70, 71, 72, 73, 74, 75, 76, 77, 78, 79, 80, 81, 82, 83, 84, 85, 86, 87, 88, 89, 90, 97, 98, 99, 100, 101, 102, 103, 104, 105, 106, 107, 108, 109, 110, 111, 112, 113, 114, 115, 116, 117, 118, 119, 120, 121, 122]⟩
abbrev textDigits : ByteArray := ⟨#[48, 49, 50, 51, 52, 53, 54, 55, 56, 57]⟩
theorem of_fin {f g : Int -> Bool} (h : ∀ n : Fin 256, f (n.val : Int) = g (n.val : Int)) {z : Int} (h0 : 0 <= z) (h1 : z <= 255) : f z = g z := by
  have := h ⟨z.toNat, by omega⟩
  simpa [Int.toNat_of_nonneg h0] using this
theorem mem_letters {z : Int} (h0 : 0 <= z) (h1 : z <= 255) : memB z textLetters.data.toList = letterB z := of_fin (f := fun z => memB z textLetters.data.toList) (g := letterB) (by decide +kernel) h0 h1
theorem mem_digits {z : Int} (h0 : 0 <= z) (h1 : z <= 255) : memB z textDigits.data.toList = digitB z := of_fin (f := fun z => memB z textDigits.data.toList) (g := digitB) (by decide +kernel) h0 h1
theorem letters_any (w : World) : Calls Tryd.prog 50 #[] w fun e w' => e = .returned (.string textLetters) /\ w = w' := by
  go_enter Tryd.func50, Tryd.ntmps50
  go_wp2
  go_ret
  exact ⟨rfl, rfl⟩
theorem in_letters (z : Int) (w : World) (h0 : 0 <= z) (h1 : z <= 255) : Calls Tryd.prog 35 #[.int .u8 z, .string textLetters] w (Says (letterB z) w) := by
  rw [<- mem_letters h0 h1]; exact in_any z textLetters w (by decide)
theorem in_digits (z : Int) (w : World) (h0 : 0 <= z) (h1 : z <= 255) : Calls Tryd.prog 35 #[.int .u8 z, .string textDigits] w (Says (digitB z) w) := by
  rw [<- mem_digits h0 h1]; exact in_any z textDigits w (by decide)
set_option maxRecDepth 100000 in
theorem class0 (z : Int) (w : World) (h0 : 0 <= z) (h1 : z <= 255) : Calls Tryd.prog 34 #[.int .u8 z, .int .i64 0] w (Says (letterB z) w) := by
  go_enter Tryd.func34, Tryd.ntmps34
  go_wp2_with fail
  refine (letters_any _).mono ?_
  rintro e w' ⟨rfl, rfl⟩
  go_wp2_with fail
  refine (in_letters z _ h0 h1).mono ?_
  rintro e w' ⟨rfl, rfl⟩
  go_wp2_with fail
  refine (in_digits z _ h0 h1).mono ?_
  rintro e w' ⟨rfl, rfl⟩
  go_wp2_with fail
  go_ret
  exact says_of w rfl
set_option maxRecDepth 100000 in
theorem class1 (z : Int) (w : World) (h0 : 0 <= z) (h1 : z <= 255) : Calls Tryd.prog 34 #[.int .u8 z, .int .i64 1] w (Says (digitB z) w) := by
  go_enter Tryd.func34, Tryd.ntmps34
  go_wp2_with fail
  refine (letters_any _).mono ?_
  rintro e w' ⟨rfl, rfl⟩
  go_wp2_with fail
  refine (in_letters z _ h0 h1).mono ?_
  rintro e w' ⟨rfl, rfl⟩
  go_wp2_with fail
  refine (in_digits z _ h0 h1).mono ?_
  rintro e w' ⟨rfl, rfl⟩
  go_wp2_with fail
  go_ret
  exact says_of w rfl
theorem byte_le (b : UInt8) : (b.toNat : Int) <= 255 := by have := b.toNat_lt; omega
def hexN (z : Int) : Int := (hexV z).getD (-1)
def hexAt (k : Nat) (z : Int) : Bool := decide ((([48, 49, 50, 51, 52, 53, 54, 55, 56, 57, 97, 98, 99, 100, 101, 102] : List Nat).getD k 0 : Int) = z) || decide ((([48, 49, 50, 51, 52, 53, 54, 55, 56, 57, 65, 66, 67, 68, 69, 70] : List Nat).getD k 0 : Int) = z)
theorem hex_hit : ∀ k : Fin 16, ∀ n : Fin 256, hexAt k.val (n.val : Int) = true -> hexN (n.val : Int) = (k.val : Int) := by decide +kernel
theorem hex_miss : ∀ n : Fin 256, (∀ k : Fin 16, hexAt k.val (n.val : Int) = false) -> hexN (n.val : Int) = -1 := by decide +kernel
def SaysInt (n : Int) (w : World) (e : Ending) (w' : World) : Prop := e = .returned (.int .i64 n) /\ w = w'
end Go.Proofs.YtadocpoejbnhpaaDoor
namespace Go.Proofs.YtadocpoejbnhpaaDoor
set_option linter.all false
open Go.RowKit
abbrev hexLow : ByteArray := ⟨#[48, 49, 50, 51, 52, 53, 54, 55, 56, 57, 97, 98, 99, 100, 101, 102]⟩
abbrev hexUp : ByteArray := ⟨#[48, 49, 50, 51, 52, 53, 54, 55, 56, 57, 65, 66, 67, 68, 69, 70]⟩
theorem low_at : ∀ k : Fin 16, (hexLow[k.val]'k.isLt).toNat = ([48, 49, 50, 51, 52, 53, 54, 55, 56, 57, 97, 98, 99, 100, 101, 102] : List Nat).getD k.val 0 := by decide
theorem up_at : ∀ k : Fin 16, (hexUp[k.val]'k.isLt).toNat = ([48, 49, 50, 51, 52, 53, 54, 55, 56, 57, 65, 66, 67, 68, 69, 70] : List Nat).getD k.val 0 := by decide
theorem hexAt_eq {k : Nat} (hk : k < 16) (z : Int) : hexAt k z = (decide (((hexLow[k]'hk).toNat : Int) = z) || decide (((hexUp[k]'hk).toNat : Int) = z)) := by
  have h1 := low_at ⟨k, hk⟩
  have h2 := up_at ⟨k, hk⟩
  simp only at h1 h2
  unfold hexAt
  rw [h1, h2]
theorem hit_of {k : Nat} (hk : k < 16) {z : Int} (h0 : 0 <= z) (h1 : z <= 255) (h : ((hexLow[k]'hk).toNat : Int) = z \/ ((hexUp[k]'hk).toNat : Int) = z) : (k : Int) = hexN z := by
  have := hex_hit ⟨k, hk⟩ ⟨z.toNat, by omega⟩
  simp only [Int.toNat_of_nonneg h0] at this
  exact (this (by rw [hexAt_eq hk]; simpa using h)).symm
theorem miss_of {z : Int} (h0 : 0 <= z) (h1 : z <= 255) (h : ∀ j, j < 16 -> hexAt j z = false) : -1 = hexN z := by
  have := hex_miss ⟨z.toNat, by omega⟩
  simp only [Int.toNat_of_nonneg h0] at this
  exact (this fun k => h k.val k.isLt).symm
theorem next_of {k : Nat} (hk : k < 16) {z : Int} (h : ∀ j, j < k -> hexAt j z = false) (h1 : ¬ ((hexLow[k]'hk).toNat : Int) = z) (h2 : ¬ ((hexUp[k]'hk).toNat : Int) = z) : ∀ j, j < k + 1 -> hexAt j z = false := by
  intro j hj
  by_cases hjk : j < k
  · exact h j hjk
  · obtain rfl : j = k := by omega
    rw [hexAt_eq hk]
    simp [h1, h2]
theorem saysInt_of {a b : Int} (w : World) (h : a = b) : SaysInt b w (.returned (.int .i64 a)) w := ⟨by rw [h], rfl⟩
set_option maxRecDepth 100000 in
theorem refHex_any (z : Int) (w : World) (h0 : 0 <= z) (h1 : z <= 255) : Calls Tryd.prog 33 #[.int .u8 z] w (SaysInt (hexN z) w) := by
  go_enter Tryd.func33, Tryd.ntmps33
  go_wp2
  go_loop [5] (fun i => ∃ k : Nat, k <= 16 /\ i = .int .i64 k /\ ∀ j, j < k -> hexAt j z = false) (fun i => 16 - (intOf i).toNat)
  case atStart => exact ⟨0, Nat.zero_le _, rfl, fun j h => by omega⟩
  case round =>
    obtain ⟨k, hk, rfl, hm⟩ := hrel
    have Hm := Lib.hid hm
    clear hm
    by_cases hlt : k < 16
    · go_wp2
      · go_ret
        exact saysInt_of w (hit_of hlt h0 h1 (.inl (by assumption)))
      · go_ret
        refine saysInt_of w (hit_of hlt h0 h1 ?_)
        go_light
        simp only [beq_iff_eq] at *
        assumption
      · go_round
        case rel =>
          refine ⟨k + 1, by omega, by go_num, ?_⟩
          go_light
          simp only [beq_eq_false_iff_ne, ne_eq] at *
          exact next_of hlt Hm.out (‹_ /\ _›).1 (‹_ /\ _›).2
        case measure => simp [intOf]; omega
    · go_wp2
      obtain rfl : k = 16 := by omega
      go_ret
      exact saysInt_of w (miss_of h0 h1 Hm.out)
end Go.Proofs.YtadocpoejbnhpaaDoor
namespace Go.Proofs.YtadocpoejbnhpaaDoor
set_option linter.all false
open Go.RowKit
def SaysIn (b : Bool) (w : World) (e : Ending) (w' : World) : Prop := e = .returned (.bool b) /\ Below w.heap.size w w'
theorem below_drewN {B : Nat} {a w : World} (h : Below B a w) (n : Nat) : Below B a (w.drewN n) := ⟨h.os, h.tape, h.output, h.size, h.block⟩
end Go.Proofs.YtadocpoejbnhpaaDoor
namespace Go.Proofs.YtadocpoejbnhpaaDoor
set_option linter.all false
open Go.RowKit
def lowI (z : Int) : Int := if 65 <= z /\ z <= 90 then z + 32 else z
def lowU (b : UInt8) : UInt8 := if 65 <= b.toNat /\ b.toNat <= 90 then UInt8.ofNat (b.toNat + 32) else b
def lowS (s : ByteArray) : ByteArray := ⟨(s.data.toList.map lowU).toArray⟩
theorem lowU_toNat (b : UInt8) : ((lowU b).toNat : Int) = lowI (b.toNat : Int) := by
  unfold lowU lowI
  by_cases h : 65 <= b.toNat /\ b.toNat <= 90
  · rw [if_pos h, if_pos (by omega)]
    simp [UInt8.toNat_ofNat']
    omega
  · rw [if_neg h, if_neg (by omega)]
def LowSt (s : ByteArray) (B k : Nat) (w : World) : Prop :=
  (∀ j (hj : j < s.size), w.cell? ⟨B, j, none⟩ = some (.int .u8 (if j < k then lowI (s[j].toNat : Int) else (s[j].toNat : Int)))) /\ ∀ j, j < s.size -> w.frozen? ⟨B, j, none⟩ = false
theorem LowSt.start {s : ByteArray} {B : Nat} {w : World} {C : Array Value} {t : TypeId} (hB : w.heap.size = B) (hC : ∀ j (hj : j < s.size), C[j]? = some (.int .u8 (s[j].toNat : Int))) (hn : s.size <= C.size) :
    LowSt s B 0 (w.alloc (.cells C t (C.size, C.size + 1))).drew := by
  subst hB
  refine ⟨fun j hj => ?_, fun j hj => ?_⟩
  · show (w.alloc _).cell? _ = _
    rw [World.cell?_alloc_mark, hC j hj]
    simp
  · show (w.alloc _).frozen? _ = _
    rw [World.frozen?_alloc_mark]
    simp; omega
theorem LowSt.stay {s : ByteArray} {B k : Nat} {w : World} (h : LowSt s B k w) (hk : k < s.size) (hz : lowI (s[k].toNat : Int) = (s[k].toNat : Int)) : LowSt s B (k + 1) w := by
  refine ⟨fun j hj => ?_, h.2⟩
  rw [h.1 j hj]
  by_cases hjk : j < k
  · rw [if_pos hjk, if_pos (by omega)]
  · by_cases hj2 : j = k
    · subst hj2; rw [if_neg hjk, if_pos (by omega), hz]
    · rw [if_neg hjk, if_neg (by omega)]
theorem LowSt.put {s : ByteArray} {B k : Nat} {w : World} (h : LowSt s B k w) (hk : k < s.size) : LowSt s B (k + 1) (w.setCell ⟨B, k, none⟩ (.int .u8 (lowI (s[k].toNat : Int)))) := by
  refine ⟨fun j hj => ?_, fun j hj => ?_⟩
  · by_cases hj2 : j = k
    · subst hj2
      have := World.cell?_setCell_same (w := w) (a := ⟨B, j, none⟩) (v := .int .u8 (lowI (s[j].toNat : Int))) (h.1 j hj)
      rw [this, if_pos (by omega)]
    · rw [World.cell?_setCell_other (h := fun h => hj2 (by injection h with h1 h2; exact h2.symm)), h.1 j hj]
      by_cases hjk : j < k
      · rw [if_pos hjk, if_pos (by omega)]
      · rw [if_neg hjk, if_neg (by omega)]
  · rw [World.frozen?_setCell]; exact h.2 j hj
theorem lowI_yes {z : Int} (h : 65 <= z) (h' : z <= 90) : lowI z = z + 32 := if_pos ⟨h, h'⟩
theorem lowI_no {z : Int} (h : ¬ (65 <= z /\ z <= 90)) : lowI z = z := if_neg h
theorem LowSt.back {s : ByteArray} {B cap : Nat} {w : World} (h : LowSt s B s.size w) :
    (convert 77 9 (.slice (some ⟨B, 0, none⟩) s.size cap)).run Tryd.prog w = .ok (.string (lowS s)) w := by
  have := run_convert_bytes_back (P := Tryd.prog) w 77 9 5 ⟨B, 0, none⟩ cap (s.data.toList.map lowU) Tryd.underlying77 Tryd.underlying5 Tryd.underlying9 (fun j hj => by
    have hj' : j < s.size := by simpa using hj
    rw [Addr.add_mid, Nat.zero_add, h.1 j hj', if_pos hj']
    simp only [List.getElem_map, Array.getElem_toList, lowU_toNat]
    rfl)
  rwa [show (s.data.toList.map lowU).length = s.size by simp] at this
set_option maxRecDepth 100000 in
theorem lower_any (s : ByteArray) (w : World) (hs : s.size <= 9223372036854775807) :
    Calls Tryd.prog 27 #[.string s] w fun e w' => e = .returned (.string (lowS s)) /\ Below w.heap.size w w' := by
  have hconv := run_bytes_of_string (P := Tryd.prog) w 9 77 5 s Tryd.underlying9 Tryd.underlying77 Tryd.underlying5
  have hC : ∀ j (hj : j < s.size), (bytesRow s (grownCap w s.size 0 5))[j]? = some (.int .u8 (s[j].toNat : Int)) := fun j hj => bytesRow_at s _ j hj
  have hn : s.size <= (bytesRow s (grownCap w s.size 0 5)).size := by unfold bytesRow; simp
  generalize bytesRow s (grownCap w s.size 0 5) = C at hconv hC hn
  generalize grownCap w s.size 0 5 = cap at hconv
  have hst := Lib.hid (LowSt.start (t := 5) (rfl : w.heap.size = _) hC hn)
  clear hC hn
  go_enter Tryd.func27, Tryd.ntmps27
  go_wp2
  have hb : Below w.heap.size w (w.alloc (.cells C 5 (C.size, C.size + 1))).drew := ((Below.refl _ _).alloc (Nat.le_refl _) _).drew
  clear hconv
  have hl := hst.out
  clear hst
  generalize (w.alloc (.cells C 5 (C.size, C.size + 1))).drew = w0 at hl hb ⊢
  go_loopw [9] (fun i wr => ∃ k : Nat, k <= s.size /\ i = .int .i64 k /\ LowSt s w.heap.size k wr /\ Below w.heap.size w wr) (fun i _ => s.size - (intOf i).toNat)
  case atStart => exact ⟨0, Nat.zero_le _, rfl, hl, hb⟩
  case round =>
    obtain ⟨k, hk, rfl, hst, hbel⟩ := hrel
    have Hst := Lib.hid hst
    by_cases hlt : k < s.size
    · have hc := hst.1 k hlt
      have hf := hst.2 k hlt
      simp only [Nat.lt_irrefl, if_false] at hc
      clear hst
      go_wp2
      · go_roundw
        case rel => exact ⟨k + 1, by omega, by go_num, by rw [<- lowI_yes (by assumption) (by assumption)]; exact Hst.out.put hlt, hbel.setCell (Nat.le_refl _) _⟩
        case measure => simp [intOf]; omega
      · go_roundw
        case rel => exact ⟨k + 1, by omega, by go_num, Hst.out.stay hlt (lowI_no (by omega)), hbel⟩
        case measure => simp [intOf]; omega
      · go_roundw
        case rel => exact ⟨k + 1, by omega, by go_num, Hst.out.stay hlt (lowI_no (by omega)), hbel⟩
        case measure => simp [intOf]; omega
    · obtain rfl : k = s.size := by omega
      have hback := hst.back (cap := cap)
      clear hst
      go_wp2
      go_ret
      exact ⟨rfl, hbel⟩
end Go.Proofs.YtadocpoejbnhpaaDoor
namespace Go.Proofs.YtadocpoejbnhpaaDoor
set_option linter.all false
def blank (b : UInt8) : Bool := b == 32 || b == 9
def trimL (l : List UInt8) : List UInt8 := ((l.dropWhile blank).reverse.dropWhile blank).reverse
theorem drop_all {l : List UInt8} (h : ∀ b ∈ l, blank b = true) (m : List UInt8) : (l ++ m).dropWhile blank = m.dropWhile blank := by
  induction l with
  | nil => rfl
  | cons a l ih =>
    rw [List.cons_append, List.dropWhile_cons, if_pos (h a (by simp))]
    exact ih fun b hb => h b (by simp [hb])
theorem drop_head {m : List UInt8} (h : m = [] \/ ∃ a r, m = a :: r /\ blank a = false) : m.dropWhile blank = m := by
  rcases h with rfl | ⟨a, r, rfl, h⟩
  · rfl
  · rw [List.dropWhile_cons, h]; rfl
theorem trim_all {l : List UInt8} (h : ∀ b ∈ l, blank b = true) : trimL l = [] := by
  have := drop_all h []
  simp at this
  simp [trimL, this]
theorem trim_of {p m q : List UInt8} (hp : ∀ b ∈ p, blank b = true) (hq : ∀ b ∈ q, blank b = true) (hm : m = [] \/ ∃ a r, m = a :: r /\ blank a = false) (hl : m = [] \/ ∃ r a, m = r ++ [a] /\ blank a = false) : trimL (p ++ m ++ q) = m := by
  by_cases hm0 : m = []
  · subst hm0
    apply trim_all
    intro b hb
    simp at hb
    rcases hb with hb | hb
    · exact hp b hb
    · exact hq b hb
  · unfold trimL
    rw [List.append_assoc, drop_all hp]
    have e1 : (m ++ q).dropWhile blank = m ++ q := drop_head (by
      rcases hm with h | ⟨a, r, rfl, h⟩
      · exact absurd h hm0
      · exact .inr ⟨a, r ++ q, rfl, h⟩)
    rw [e1, List.reverse_append, drop_all (fun b hb => hq b (by simpa using hb)), drop_head, List.reverse_reverse]
    rcases hl with h | ⟨r, a, rfl, h⟩
    · exact absurd h hm0
    · exact .inr ⟨a, r.reverse, by simp, h⟩
theorem getElem_toList (s : ByteArray) (k : Nat) (h : k < s.size) : s.data.toList[k]'(by simpa using h) = s[k] := rfl
def Trimmed (s : ByteArray) (a b : Nat) : Prop :=
  a <= b /\ b <= s.size /\ (∀ j (h : j < s.size), j < a -> blank s[j] = true) /\ (∀ j (h : j < s.size), b <= j -> blank s[j] = true) /\ (a = b \/ (∃ h : a < s.size, blank s[a] = false) /\ ∃ h : b - 1 < s.size, blank s[b - 1] = false)
def trimS (s : ByteArray) : ByteArray := ⟨(trimL s.data.toList).toArray⟩
theorem Trimmed.text {s : ByteArray} {a b : Nat} (h : Trimmed s a b) : s.extract a b = trimS s := by
  obtain ⟨h1, h2, h3, h4, h5⟩ := h
  have hlen : s.data.toList.length = s.size := by simp
  have e : s.data.toList = s.data.toList.take a ++ (s.data.toList.drop a).take (b - a) ++ s.data.toList.drop b := by
    have e1 : (s.data.toList.drop a).drop (b - a) = s.data.toList.drop b := by rw [List.drop_drop]; congr 1; omega
    rw [List.append_assoc, <- e1, List.take_append_drop, List.take_append_drop]
  have key : trimL s.data.toList = (s.data.toList.drop a).take (b - a) := by
    conv => lhs; rw [e]
    apply trim_of
    · intro x hx
      obtain ⟨j, hj, rfl⟩ := List.getElem_of_mem hx
      simp at hj
      rw [List.getElem_take]
      exact h3 j (by omega) (by omega)
    · intro x hx
      obtain ⟨j, hj, rfl⟩ := List.getElem_of_mem hx
      simp at hj
      rw [List.getElem_drop]
      exact h4 (b + j) (by omega) (by omega)
    · rcases h5 with h5 | ⟨⟨h6, h7⟩, _⟩
      · left; subst h5; simp
      · by_cases hab : a = b
        · left; subst hab; simp
        right
        have : (s.data.toList.drop a).take (b - a) = s[a] :: (s.data.toList.drop (a + 1)).take (b - a - 1) := by
          rw [List.drop_eq_getElem_cons (by simpa using h6)]
          obtain ⟨n, hn⟩ : ∃ n, b - a = n + 1 := ⟨b - a - 1, by omega⟩
          rw [hn, List.take_succ_cons]
          rfl
        exact ⟨_, _, this, h7⟩
    · rcases h5 with h5 | ⟨_, h6, h7⟩
      · left; subst h5; simp
      · by_cases hab : a = b
        · left; subst hab; simp
        right
        have : (s.data.toList.drop a).take (b - a) = (s.data.toList.drop a).take (b - a - 1) ++ [s[b - 1]] := by
          obtain ⟨n, hn⟩ : ∃ n, b - a = n + 1 := ⟨b - a - 1, by omega⟩
          have hl : n < (s.data.toList.drop a).length := by simp; omega
          rw [hn, List.take_succ_eq_append_getElem hl]
          simp only [Nat.add_sub_cancel, List.getElem_drop]
          congr 2
          show s.data.toList[a + n] = s.data.toList[b - 1]
          congr 1; omega
        exact ⟨_, _, this, h7⟩
  unfold trimS
  rw [key]
  apply ByteArray.ext
  apply Array.toList_inj.1
  simp
end Go.Proofs.YtadocpoejbnhpaaDoor
namespace Go.Proofs.YtadocpoejbnhpaaDoor
set_option linter.all false
open Go.RowKit
def TrimSt (s : ByteArray) (k a b : Nat) : Prop :=
  (a = 0 /\ b = 0 /\ ∀ j (h : j < s.size), j < k -> blank s[j] = true) \/
  (a < b /\ b <= k /\ (∀ j (h : j < s.size), j < a -> blank s[j] = true) /\ (∃ h : a < s.size, blank s[a] = false) /\ (∃ h : b - 1 < s.size, blank s[b - 1] = false) /\ ∀ j (h : j < s.size), b <= j -> j < k -> blank s[j] = true)
theorem TrimSt.skip {s : ByteArray} {k a b : Nat} (h : TrimSt s k a b) (hk : k < s.size) (hb : blank s[k] = true) : TrimSt s (k + 1) a b := by
  rcases h with ⟨h1, h2, h3⟩ | ⟨h1, h2, h3, h4, h5, h6⟩
  · exact .inl ⟨h1, h2, fun j hj hjk => by
      by_cases hj2 : j = k
      · subst hj2; exact hb
      · exact h3 j hj (by omega)⟩
  · exact .inr ⟨h1, by omega, h3, h4, h5, fun j hj hbj hjk => by
      by_cases hj2 : j = k
      · subst hj2; exact hb
      · exact h6 j hj hbj (by omega)⟩
theorem TrimSt.first {s : ByteArray} {k a b : Nat} (h : TrimSt s k a b) (hk : k < s.size) (hb : blank s[k] = false) (h0 : b = 0) : TrimSt s (k + 1) k (k + 1) := by
  rcases h with ⟨h1, h2, h3⟩ | ⟨h1, h2, h3, h4, h5, h6⟩
  · exact .inr ⟨by omega, by omega, fun j hj hjk => h3 j hj hjk, ⟨hk, hb⟩, ⟨by omega, by simpa using hb⟩, fun j hj h7 h8 => by omega⟩
  · omega
theorem TrimSt.more {s : ByteArray} {k a b : Nat} (h : TrimSt s k a b) (hk : k < s.size) (hb : blank s[k] = false) (h0 : ¬ b = 0) : TrimSt s (k + 1) a (k + 1) := by
  rcases h with ⟨h1, h2, h3⟩ | ⟨h1, h2, h3, h4, h5, h6⟩
  · exact absurd h2 h0
  · exact .inr ⟨by omega, by omega, h3, h4, ⟨by omega, by simpa using hb⟩, fun j hj h7 h8 => by omega⟩
theorem TrimSt.text {s : ByteArray} {a b : Nat} (h : TrimSt s s.size a b) : s.extract a b = trimS s := by
  apply Trimmed.text
  rcases h with ⟨rfl, rfl, h3⟩ | ⟨h1, h2, h3, h4, h5, h6⟩
  · exact ⟨by omega, by omega, fun j h hj => by omega, fun j h _ => h3 j h h, .inl rfl⟩
  · exact ⟨by omega, h2, h3, fun j h hj => h6 j h hj h, .inr ⟨h4, h5⟩⟩
end Go.Proofs.YtadocpoejbnhpaaDoor
namespace Go.Proofs.YtadocpoejbnhpaaDoor
set_option linter.all false
open Go.RowKit
theorem Tryd.infoByte : (Tryd.prog.info? 5).map (fun i => (i.zero, i.size, i.bytes)) = some (some (.int .u8 0), 1, 1) := by kernel_rfl
def byteVals (l : List UInt8) : List Value := l.map fun b => .int .u8 (b.toNat : Int)
def OwnBytes (w : World) (base : Nat) (v : Value) (l : List UInt8) : Prop := w.ownsRow base 5 1 v l.length (byteVals l)
theorem OwnBytes.nil (w : World) (base : Nat) : OwnBytes w base (.slice none 0 0) [] := World.ownsRow_nil _ _ _ _
theorem bytes_none (w : World) (src dst e : TypeId) (cap : Nat) {P : Program} (hs : P.underlying src = some (.slice e)) (he : P.underlying e = some (.int .u8)) (hd : P.underlying dst = some .string) :
    (convert src dst (.slice none 0 cap)).run P w = .ok (.string ⟨#[]⟩) w := by
  rw [run_convert_bytes_string w src dst e none 0 cap hs he hd]
  unfold Conv.bytesToString
  simp [Sem.run_pure]
  rfl
theorem OwnBytes.back {w : World} {base : Nat} {v : Value} {l : List UInt8} (h : OwnBytes w base v l) : (convert 77 9 v).run Tryd.prog w = .ok (.string ⟨l.toArray⟩) w := by
  have h0 : w.ownsRow base 5 1 v l.length (l.map fun b => .int .u8 (b.toNat : Int)) := h
  rcases h0.2 with ⟨rfl, hn⟩ | ⟨g, cap, cur, rfl, _⟩
  · have : l = [] := List.length_eq_zero_iff.1 hn
    subst this
    exact bytes_none w 77 9 5 0 Tryd.underlying77 Tryd.underlying5 Tryd.underlying9
  · exact run_convert_bytes_back w 77 9 5 ⟨g, 0, none⟩ cap l Tryd.underlying77 Tryd.underlying5 Tryd.underlying9 fun j hj =>
      h0.cells (g := g) rfl j _ (by simp [List.getElem?_eq_getElem hj])
theorem OwnBytes.more {w : World} {base : Nat} {v : Value} {l : List UInt8} {c : UInt8} {z : Int} (h : w.ownsRow base 5 1 v (l.length + 1) (byteVals l ++ [.int .u8 z])) (hz : z = (c.toNat : Int)) : OwnBytes w base v (l ++ [c]) := by
  subst hz
  unfold OwnBytes byteVals
  rw [List.length_append, List.map_append]
  exact h
theorem below_append {B : Nat} {w wr w1 : World} {v : Value} {l : List UInt8} {o : Obj} (hb : Below B w wr) (hB : B <= wr.heap.size) (h : OwnBytes wr B v l) (hg : (wr.alloc o).grownBy w1 v.ownBlock) : Below B w w1 :=
  (hb.alloc hB o).grown hg (by simp; omega) fun k hk => (World.ownsRow.lt h k hk).1
theorem OwnBytes.shape {w : World} {base : Nat} {v : Value} {l : List UInt8} (h : OwnBytes w base v l) : v = .slice none 0 0 \/ ∃ g cap, v = .slice (some ⟨g, 0, none⟩) l.length cap := by
  have h0 : w.ownsRow base 5 1 v l.length (byteVals l) := h
  rcases h0.2 with ⟨rfl, hn⟩ | ⟨g, cap, cur, rfl, _⟩
  · exact .inl rfl
  · exact .inr ⟨g, cap, rfl⟩
theorem wpList_append_byteL {ops : Array Oper} {rest : List Oper} {o : Oper} {a : Act} {Q : Exit -> Act -> World -> Prop} (hgd : o.guard = none) (s x : Operand)
    (ho : o.op = .call { callee := .builtin .append, args := #[s, x], argTypes := #[77, 77] })
    (B : Nat) (w wr : World) (v : Value) (l : List UInt8) (c : UInt8) (z : Int) (hs : a.eval s = v) (hown : OwnBytes wr B v l) (hx : a.eval x = .slice (some ⟨wr.heap.size, 0, none⟩) 1 1) (hz : z = (c.toNat : Int))
    (hl : l.length <= 140737488351232) (hB : B <= wr.heap.size) (hbel : Below B w wr)
    (h : ∀ v' w', OwnBytes w' B v' (l ++ [c]) -> Below B w w' -> wpList Tryd.prog ops Q rest (a.put o.dst v') w') : wpList Tryd.prog ops Q (o :: rest) a (wr.alloc (.cells #[.int .u8 z] 5)) := by
  obtain ⟨i0, hi, hz0, hz1, hz2⟩ := info_parts Tryd.infoByte
  have h0 : wr.ownsRow B 5 1 v l.length (byteVals l) := hown
  refine wpList_append_own (P := Tryd.prog) (wr.alloc (.cells #[.int .u8 z] 5)) hgd s x 77 ho B 5 i0 (.int .u8 0) 1 1 Tryd.underlying77 hi hz0 hz1 hz2 rfl (by decide) v l.length _ hs (World.ownsRow.alloc h0 _) ⟨wr.heap.size, 0, none⟩ 1 1 [.int .u8 z] hx rfl ?_ ?_ ?_ ?_ ?_ ?_
  · intro j u hj
    match j, hj with
    | 0, hj =>
      simp at hj; subst hj
      show (wr.alloc _).cell? _ = _
      simp [Addr.add, World.cell?_alloc_mark]
  · intro u hu; simp at hu; subst hu; rfl
  · unfold maxLen; omega
  · omega
  · simp; omega
  · intro v' w' h1 h2 _
    exact h v' w' (OwnBytes.more h1 hz) (below_append hbel hB hown h2)
theorem ret_text {a b : ByteArray} (h : a = b) : Ending.returned (.string a) = .returned (.string b) := by rw [h]
set_option maxRecDepth 100000 in
theorem refLower_huge (s : ByteArray) (w : World) (hs : s.size <= 140737488351232) :
    Calls Tryd.prog 15 #[.string s] w fun e w' => e = .returned (.string (lowS s)) /\ Below w.heap.size w w' := by
  go_enter Tryd.func15, Tryd.ntmps15
  go_wp2
  go_loopw [3, 4] (fun v i wr => ∃ (k : Nat) (l : List UInt8), k <= s.size /\ i = .int .i64 k /\ (s.data.toList.take k).map lowU = l /\ OwnBytes wr w.heap.size v l /\ Below w.heap.size w wr) (fun _ i _ => s.size - (intOf i).toNat)
  case atStart => exact ⟨0, [], Nat.zero_le _, rfl, rfl, OwnBytes.nil _ _, Below.refl _ _⟩
  case round =>
    obtain ⟨k, l, hk, rfl, hl, hown, hbel⟩ := hrel
    have hsz := hbel.size
    have hle : l.length <= 140737488351232 := by rw [<- hl]; simp; omega
    have Hl := Lib.hid hl
    clear hl
    by_cases hlt : k < s.size
    · have Htake := Lib.hid (take_snoc s k hlt)
      by_cases hlow : 65 <= (s[k].toNat : Int) /\ (s[k].toNat : Int) <= 90
      · obtain ⟨hl1, hl2⟩ := hlow
        have Hz := Lib.hid (show (s[k].toNat : Int) + 32 = ((lowU s[k]).toNat : Int) by rw [lowU_toNat, lowI_yes hl1 hl2])
        go_wp2_with (at_builtin; refine wpList_append_byteL rfl _ _ rfl w.heap.size w wr u3 l (lowU s[k]) _ rfl hown rfl Hz.out hle hsz hbel ?_)
        intro v' w1 hown' hbel'
        clear hown hbel
        have Hown := Lib.hid hown'
        clear hown'
        go_wp2
        go_roundw
        case rel => exact ⟨k + 1, _, by omega, by go_num, by rw [Htake.out, List.map_append, Hl.out]; rfl, Hown.out, hbel'⟩
        case measure => simp [intOf]; omega
      · have Hz := Lib.hid (show (s[k].toNat : Int) = ((lowU s[k]).toNat : Int) by rw [lowU_toNat, lowI_no hlow])
        by_cases hl1 : 65 <= (s[k].toNat : Int)
        all_goals
          have hl2 : 90 < (s[k].toNat : Int) \/ ¬ 65 <= (s[k].toNat : Int) := by omega
          clear hlow
          first
          | (have hl3 : 90 < (s[k].toNat : Int) := by omega)
          | skip
          clear hl2
          go_wp2_with (at_builtin; refine wpList_append_byteL rfl _ _ rfl w.heap.size w wr u3 l (lowU s[k]) _ rfl hown rfl Hz.out hle hsz hbel ?_)
          intro v' w1 hown' hbel'
          clear hown hbel
          have Hown := Lib.hid hown'
          clear hown'
          go_wp2
          go_roundw
          case rel => exact ⟨k + 1, _, by omega, by go_num, by rw [Htake.out, List.map_append, Hl.out]; rfl, Hown.out, hbel'⟩
          case measure => simp [intOf]; omega
    · obtain rfl : k = s.size := by omega
      have hback := hown.back
      rcases hown.shape with rfl | ⟨g, cap, rfl⟩
      all_goals
        clear hown
        go_wp2
        go_ret
        exact ⟨ret_text (by rw [<- Hl.out]; unfold lowS; rw [List.take_of_length_le (by simp)]), hbel⟩
theorem refLower_big (s : ByteArray) (w : World) (hs : s.size <= 4000000) :
    Calls Tryd.prog 15 #[.string s] w fun e w' => e = .returned (.string (lowS s)) /\ Below w.heap.size w w' := refLower_huge s w (by omega)
theorem refLower_any (s : ByteArray) (w : World) (hs : s.size <= 1000000) :
    Calls Tryd.prog 15 #[.string s] w fun e w' => e = .returned (.string (lowS s)) /\ Below w.heap.size w w' := refLower_big s w (by omega)
end Go.Proofs.YtadocpoejbnhpaaDoor
namespace Go.Proofs.YtadocpoejbnhpaaDoor
set_option linter.all false
open Go.RowKit
theorem byte_is {c : UInt8} {n : Nat} (hn : n < 256) (h : (c.toNat : Int) = n) : c = UInt8.ofNat n := by
  apply UInt8.toNat_inj.1; rw [UInt8.toNat_ofNat']; omega
theorem own_below {w w' : World} {base : Nat} {e : TypeId} {size : Nat} {v : Value} {n : Nat} {xs : List Value} (h : w.ownsRow base e size v n xs) (hb : Below w.heap.size w w') : w'.ownsRow base e size v n xs :=
  h.kept (row := none) ⟨hb.os, hb.tape, hb.output, hb.size, fun k hk _ => hb.block k hk⟩ (by cases v.ownBlock <;> simp)
theorem bytesEmpty_bool (a : ByteArray) : a.toList.isEmpty = decide (a.size = 0) := by
  rw [ByteArray.toList_eq, Bool.eq_iff_iff, decide_eq_true_eq, List.isEmpty_iff, <- List.length_eq_zero_iff]
  simp
end Go.Proofs.YtadocpoejbnhpaaDoor
